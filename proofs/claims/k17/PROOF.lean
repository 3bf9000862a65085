import PyProof.Rows.All
import Wide.All
import OpenK.AllK
import Wide.FinOn
import Lean
import PyProof.EqAt
import PyProof.EqKinds
import PyProof.TupleCall
import KE.KRevIter
import PyProof.Rows.SetFrom
import KE.KTryMore
import PyProof.NsDelKeeps
import PyProof.ExcAttrAll.ValueError
import KE.RegKTryMore
import KE.KTab
import PyProof.StrBlockH
import PySem.Challenge.RW_blockturn_k17_texts_refused
set_option Elab.async false
set_option linter.all false
set_option maxRecDepth 100000
namespace L2
open PySem PySem.Spec PyProof.Rows
noncomputable abbrev Key := Sum Int Str
noncomputable def keyIs : Key → Value → Bool
  | .inl k, v => Value.isInt k v
  | .inr x, v => Value.isStrOf x v
noncomputable def keyH (w : World) : Key → Int
  | .inl k => hashInt k
  | .inr x => hashStr w x
theorem keyIs_shape : ∀ {k : Key} {v : Value}, keyIs k v = true → (∃ i t, k = Sum.inl i ∧ v = Value.int i t) ∨ (∃ x t, k = Sum.inr x ∧ v = Value.str x t)
  | .inl i, v, h => by
    obtain ⟨t, e⟩ := Value.isInt_shape (k := i) (v := v) h
    exact .inl ⟨i, t, rfl, e⟩
  | .inr x, v, h => by
    obtain ⟨t, e⟩ := Value.isStrOf_shape (x := x) (v := v) h
    exact .inr ⟨x, t, rfl, e⟩
theorem keyIs_str (x : Str) (t : Tok) : keyIs (.inr x) (.str x t) = true := by simp [keyIs, Value.isStrOf]
theorem key_ll (a b : Int) : decide ((Sum.inl a : Key) = Sum.inl b) = (a == b) := by
  by_cases e : a = b
  · subst e; simp
  · have h : ¬ (Sum.inl a : Key) = Sum.inl b := fun q => e (Sum.inl.inj q)
    rw [decide_eq_false h]
    exact (beq_eq_false_iff_ne.mpr e).symm
theorem key_rr (a b : Str) : decide ((Sum.inr a : Key) = Sum.inr b) = decide (a = b) := by
  by_cases e : a = b
  · subst e; simp
  · have h : ¬ (Sum.inr a : Key) = Sum.inr b := fun q => e (Sum.inr.inj q)
    rw [decide_eq_false h, decide_eq_false e]
theorem key_lr (a : Int) (b : Str) : decide ((Sum.inl a : Key) = Sum.inr b) = false := decide_eq_false (fun q => nomatch q)
theorem key_rl (a : Str) (b : Int) : decide ((Sum.inr a : Key) = Sum.inl b) = false := decide_eq_false (fun q => nomatch q)
noncomputable def mixKind (prog : Program) (w : World) : PySem.KeyKind prog w Key where
  is := keyIs
  hash := keyH w
  inj := fun v a b ha hb => by
    rcases keyIs_shape ha with ⟨i, t, rfl, rfl⟩ | ⟨x, t, rfl, rfl⟩
    · rcases keyIs_shape hb with ⟨j, u, rfl, e⟩ | ⟨y, u, rfl, e⟩
      · injection e with e1 _; rw [e1]
      · exact nomatch e
    · rcases keyIs_shape hb with ⟨j, u, rfl, e⟩ | ⟨y, u, rfl, e⟩
      · exact nomatch e
      · injection e with e1 _; rw [e1]
  byValue := fun k v h => by
    rcases keyIs_shape h with ⟨i, t, rfl, rfl⟩ | ⟨x, t, rfl, rfl⟩ <;> rfl
  pyHash := fun hv h => by
    rcases keyIs_shape hv with ⟨i, t, rfl, rfl⟩ | ⟨x, t, rfl, rfl⟩
    · exact wpAny_pyHash_int h
    · exact wpAny_pyHash_str h
  eqBool := fun hu hv h => by
    rcases keyIs_shape hu with ⟨i, t, rfl, rfl⟩ | ⟨x, t, rfl, rfl⟩
    · rcases keyIs_shape hv with ⟨j, u, rfl, rfl⟩ | ⟨y, u, rfl, rfl⟩
      · rw [key_ll] at h; exact wpAny_eqBool_int h
      · rw [key_lr] at h; exact SeqAt.EqAt.int_str i t y u _ _ _ _ h
    · rcases keyIs_shape hv with ⟨j, u, rfl, rfl⟩ | ⟨y, u, rfl, rfl⟩
      · rw [key_rl] at h; exact SeqAt.EqAt.str_int x t j u _ _ _ _ h
      · rw [key_rr] at h; exact wpAny_eqBool_str h
  «strs» := fun k x t v h => by
    rcases keyIs_shape h with ⟨i, u, rfl, e⟩ | ⟨y, u, rfl, e⟩
    · exact nomatch e
    · injection e with e1 _
      subst e1
      cases v <;> rfl
theorem mixKind_str (prog : Program) (w : World) (x : Str) (t : Tok) : (mixKind prog w).is (.inr x) (.str x t) = true := keyIs_str x t
end L2
namespace L2
open PySem PySem.Spec PyProof.Rows
inductive V where
  | non | bl (b : Bool) | int (i : Int) | str (x : Str) | byt (b : Array UInt8) | flt (b : UInt64) | ref (a : Addr) | ty (n : String)
  deriving DecidableEq
noncomputable def RelV : V → Value → Prop
  | .non, u => u = Value.none
  | .bl b, u => u = Value.bool b
  | .int i, u => ∃ t, u = Value.int i t
  | .str x, u => ∃ t, u = Value.str x t
  | .byt b, u => ∃ t, u = Value.bytes b t
  | .flt b, u => ∃ t, u = Value.float b t
  | .ref a, u => u = Value.ref a
  | .ty n, u => u = Value.type n
noncomputable abbrev Vals : List V → List Value → Prop := Paired RelV
theorem Vals.length {xs : List V} {us : List Value} (r : Vals xs us) : xs.length = us.length := Paired.length r
theorem Vals.get : ∀ {xs : List V} {us : List Value} {i : Nat} {x : V}, Vals xs us → xs[i]? = some x → ∃ u, us[i]? = some u ∧ RelV x u
  | _, _, _, _, .nil, e => by simp at e
  | _, _, 0, _, .cons r _, e => by simp at e; subst e; exact ⟨_, rfl, r⟩
  | _, _, i + 1, x, .cons _ t, e => by
    obtain ⟨u, h1, h2⟩ := Vals.get (i := i) (x := x) t (by simpa using e)
    exact ⟨u, by simpa using h1, h2⟩
theorem Vals.set {x : V} {u : Value} (r : RelV x u) : ∀ {xs : List V} {us : List Value} (i : Nat), Vals xs us → Vals (xs.set i x) (us.set i u)
  | _, _, _, .nil => .nil
  | _, _, 0, .cons _ t => .cons r t
  | _, _, i + 1, .cons q t => .cons q (Vals.set r i t)
theorem Vals.append : ∀ {xs ys : List V} {us ws : List Value}, Vals xs us → Vals ys ws → Vals (xs ++ ys) (us ++ ws)
  | _, _, _, _, .nil, s => s
  | _, _, _, _, .cons r t, s => .cons r (Vals.append t s)
theorem Vals.take : ∀ {xs : List V} {us : List Value} (n : Nat), Vals xs us → Vals (xs.take n) (us.take n)
  | _, _, 0, _ => .nil
  | _, _, _ + 1, .nil => .nil
  | _, _, n + 1, .cons r t => .cons r (Vals.take n t)
theorem Vals.drop : ∀ {xs : List V} {us : List Value} (n : Nat), Vals xs us → Vals (xs.drop n) (us.drop n)
  | _, _, 0, r => r
  | _, _, _ + 1, .nil => .nil
  | _, _, n + 1, .cons _ t => Vals.drop n t
noncomputable def RelO : Option V → Option Value → Prop
  | some v, some u => RelV v u
  | none, none => True
  | _, _ => False
noncomputable def KV {κ : Type} : List (κ × V) → List (κ × Value) → Prop := Paired fun (p : κ × V) (q : κ × Value) => p.1 = q.1 ∧ RelV p.2 q.2
noncomputable def kV : Key → V
  | .inl i => .int i
  | .inr x => .str x
inductive HO where
  /-- a list -/
  | lst (xs : List V)
  /-- a tuple (never changes) -/
  | tup (xs : List V)
  /-- a dict whose keys are ints and texts; one whose keys are tuples of ints and texts (the empty one is both) -/
  | dK (kvs : List (Key × V)) | dT (kvs : List (List Key × V))
  /-- a set of ints: its members, its size -/
  | set (S : Int → Bool) (n : Nat)
  /-- an instance of the class at C, its dict at dx, its attributes -/
  | ins (C dx : Addr) (fs : List (Str × V))
  /-- the dict of the instance at x -/
  | own (x : Addr)
  /-- the dict of an exception -/
  | xd (fs : List (Str × V))
  /-- a bound method, f of x -/
  | met (f x : Addr)
  /-- a range object lo, lo + 1, .. below hi -/
  | rng (lo hi : Int)
  /-- a thing that is known to the object (the script; a dict while a loop walks it): read, never written while it is so -/
  | frz (o : Obj) (u : HO)
  /-- a code object's table -/
  | tbl (ps : Array Value)
  /-- any other thing, by what is true of its one object (a def of one's own: SetO a S n := HO.ext fun h => ..) -/
  | ext (φ : Heap → Prop)
noncomputable abbrev Hp := Addr → Option HO
noncomputable def upd (H : Hp) (a : Addr) (o : HO) : Hp := fun b => if b = a then some o else H b
theorem upd_same {H : Hp} {a : Addr} {o : HO} : upd H a o a = some o := by unfold upd; rw [if_pos rfl]
theorem upd_ne {H : Hp} {a b : Addr} {o : HO} (h : b ≠ a) : upd H a o b = H b := by unfold upd; rw [if_neg h]
theorem ne_of {H : Hp} {a b : Addr} {o u : HO} (h : H a = some o) (h' : H b = some u) (d : o ≠ u) : a ≠ b := by
  intro e; subst e; rw [h] at h'; exact d (Option.some.inj h')
theorem ne_of_none {H : Hp} {a b : Addr} {o : HO} (h : H a = some o) (h' : H b = none) : a ≠ b := by
  intro e; subst e; rw [h] at h'; cases h'
section
variable (P : Program) (w : World)
noncomputable def ObjOk (H : Hp) (h : Heap) (a : Addr) : HO → Prop
  | .lst xs => xs.length ≤ sizeLine ∧ ∃ (its : List Value) (n : Nat), Vals xs its ∧ h.get? a = some { cls := .type "list", data := .seq its.toArray n }
  | .tup xs => xs.length ≤ sizeLine ∧ ∃ its : List Value, Vals xs its ∧ IsTup h a its.toArray
  | .dK kvs => kvs.length ≤ sizeLine ∧ (a == sysModules) = false ∧ ∃ vs, KV kvs vs ∧ h.DictOf (mixKind P w) a vs
  | .dT kvs => kvs.length ≤ sizeLine ∧ (a == sysModules) = false ∧ ∃ xs : List (List Key × Addr × Value),
      Paired (fun (p : List Key × V) (q : List Key × Addr × Value) => p.1 = q.1 ∧ H q.2.1 = some (.tup (p.1.map kV)) ∧ RelV p.2 q.2.2) kvs xs ∧
      ∃ o es ep, h.get? a = some o ∧ o.ExactDict ∧ o.data = .dict es ep ∧ es.toList = xs.map (entryOfKey (tupleKind (mixKind P w))) ∧ (xs.map (·.1)).Nodup
  | .set S n => h.SetOf (intKind P w) a S n
  | .ins C dx fs => H dx = some (.own a) ∧ fs.length ≤ 1000 ∧ dx ≠ a ∧ h.get? a = some (PySem.W.instObj C dx) ∧
      ∃ mA, h.Ns1 dx mA ∧ (∀ f, RelO (fs.lookup f) (mA f)) ∧ PySem.Within mA (fs.map (·.1))
  | .own _ => ∃ o, h.get? a = some o
  | .xd fs => ∃ mA, h.Ns1 a mA ∧ ∀ f, RelO (fs.lookup f) (mA f)
  | .rng lo hi => ∃ t u v, h.get? a = some { cls := .type "range", data := .fields #[.int lo t, .int hi u, .int 1 v] }
  | .frz o u => h.get? a = some o ∧ ObjOk H h a u
  | .tbl ps => h.get? a = some { cls := .none, data := .fields ps }
  | .met f x => h.get? a = some (PySem.W.methodObj (.ref f) (.ref x))
  | .ext φ => φ h ∧ (∃ o, h.get? a = some o) ∧ ∀ h1 h2 : Heap, φ h1 → (∀ o, h1.get? a = some o → h2.get? a = some o) → φ h2
noncomputable def HOk (H : Hp) (h : Heap) : Prop := ∀ a o, H a = some o → ObjOk P w H h a o
end
section
variable {P : Program} {w : World} {H H' : Hp} {h h' : Heap} {a : Addr} {o : HO}
theorem ObjOk.lt (x : ObjOk P w H h a o) : a < h.objs.size := by
  cases o with
  | lst xs => obtain ⟨_, _, _, _, e⟩ := x; exact Heap.lt_size e
  | tup xs => obtain ⟨_, _, _, p⟩ := x; exact p.lt
  | dK kvs => obtain ⟨_, _, _, _, o, _, _, e, _⟩ := x; exact Heap.lt_size e
  | dT kvs => obtain ⟨_, _, _, _, o, _, _, e, _⟩ := x; exact Heap.lt_size e
  | set S n => obtain ⟨o, _, _, _, e, _⟩ := x; exact Heap.lt_size e
  | ins C dx fs => obtain ⟨_, _, _, e, _⟩ := x; exact Heap.lt_size e
  | own y => obtain ⟨_, e⟩ := x; exact Heap.lt_size e
  | xd fs => obtain ⟨_, ⟨_, _, _, e, _⟩, _⟩ := x; exact Heap.lt_size e
  | rng lo hi => obtain ⟨_, _, _, e⟩ := x; exact Heap.lt_size e
  | frz ob u => obtain ⟨e, _⟩ := x; exact Heap.lt_size e
  | tbl ps => exact Heap.lt_size (show h.get? a = some _ from x)
  | met f y => exact Heap.lt_size (show h.get? a = some _ from x)
  | ext φ => obtain ⟨_, ⟨_, e⟩, _⟩ := x; exact Heap.lt_size e
theorem Paired.mapP {α β : Type} {F G : α → β → Prop} : ∀ {l₁ : List α} {l₂ : List β}, Paired F l₁ l₂ → (∀ a b, F a b → G a b) → Paired G l₁ l₂
  | _, _, .nil, _ => .nil
  | _, _, .cons r t, f => .cons (f _ _ r) (Paired.mapP t f)
theorem ObjOk.stay (x : ObjOk P w H h a o) (k : ∀ b u, (b = a ∨ H b = some (.own a)) → h.get? b = some u → h'.get? b = some u)
    (ho : ∀ b, H b = some (.own a) → H' b = some (.own a)) (ht : ∀ b xs, H b = some (.tup xs) → H' b = some (.tup xs)) : ObjOk P w H' h' a o := by
  induction o with
  | lst xs => obtain ⟨z, its, n, r, e⟩ := x; exact ⟨z, its, n, r, k _ _ (.inl rfl) e⟩
  | tup xs => obtain ⟨z, its, r, ob, e, c⟩ := x; exact ⟨z, its, r, ob, k _ _ (.inl rfl) e, c⟩
  | dK kvs => obtain ⟨z, y, vs, r, ob, es, ep, e, c⟩ := x; exact ⟨z, y, vs, r, ob, es, ep, k _ _ (.inl rfl) e, c⟩
  | dT kvs =>
    obtain ⟨z, y, xs, r, ob, es, ep, e, c⟩ := x
    exact ⟨z, y, xs, Paired.mapP r fun p q z => ⟨z.1, ht _ _ z.2.1, z.2.2⟩, ob, es, ep, k _ _ (.inl rfl) e, c⟩
  | set S n => obtain ⟨ob, es, ep, t, e, c⟩ := x; exact ⟨ob, es, ep, t, k _ _ (.inl rfl) e, c⟩
  | ins C dx fs =>
    obtain ⟨d, z, ne, e, mA, ⟨od, es, ep, e2, c⟩, r⟩ := x
    exact ⟨ho _ d, z, ne, k _ _ (.inl rfl) e, mA, ⟨od, es, ep, k _ _ (.inr d) e2, c⟩, r⟩
  | own y => obtain ⟨ob, e⟩ := x; exact ⟨ob, k _ _ (.inl rfl) e⟩
  | xd fs => obtain ⟨mA, ⟨od, es, ep, e, c⟩, r⟩ := x; exact ⟨mA, ⟨od, es, ep, k _ _ (.inl rfl) e, c⟩, r⟩
  | rng lo hi => obtain ⟨t, u, v, e⟩ := x; exact ⟨t, u, v, k _ _ (.inl rfl) e⟩
  | frz ob u ih => obtain ⟨e, q⟩ := x; exact ⟨k _ _ (.inl rfl) e, ih q⟩
  | tbl ps =>
    have e : h.get? a = some { cls := .none, data := .fields ps } := x
    show h'.get? a = some { cls := .none, data := .fields ps }
    exact k a _ (.inl rfl) e
  | met f y =>
    have e : h.get? a = some (PySem.W.methodObj (.ref f) (.ref y)) := x
    show h'.get? a = some (PySem.W.methodObj (.ref f) (.ref y))
    exact k a _ (.inl rfl) e
  | ext φ => obtain ⟨p, ⟨o, e⟩, st⟩ := x; exact ⟨st _ _ p fun o q => k _ _ (.inl rfl) q, ⟨o, k _ _ (.inl rfl) e⟩, st⟩
theorem HOk.lt (x : HOk P w H h) (e : H a = some o) : a < h.objs.size := (x a o e).lt
theorem HOk.fresh (x : HOk P w H h) (e : h.objs.size ≤ a) : H a = none := by
  cases q : H a with
  | none => rfl
  | some u => exact absurd (Nat.lt_of_lt_of_le (x.lt q) e) (Nat.lt_irrefl _)
theorem HOk.kept (x : HOk P w H h) (k : ∀ b u, h.get? b = some u → h'.get? b = some u) : HOk P w H h' := fun a o e =>
  (x a o e).stay (fun b u _ q => k b u q) (fun _ q => q) fun _ _ q => q
theorem HOk.laid (x : HOk P w H h) (k : ∀ b u, h.get? b = some u → h'.get? b = some u) (hp : h.objs.size ≤ a) (new : ObjOk P w (upd H a o) h' a o) : HOk P w (upd H a o) h' := fun b u e => by
  have hn := x.fresh hp
  by_cases hb : b = a
  · subst hb; rw [upd_same] at e; cases e; exact new
  · rw [upd_ne hb] at e
    exact (x b u e).stay (fun c v _ q => k c v q) (fun c q => by rw [upd_ne (ne_of_none q hn)]; exact q) fun c xs q => by rw [upd_ne (ne_of_none q hn)]; exact q
end
noncomputable def Rd (H : Hp) (a : Addr) (u : HO) : Prop := H a = some u ∨ ∃ o, H a = some (.frz o u)
theorem Rd.of {H : Hp} {a : Addr} {u : HO} (h : H a = some u) : Rd H a u := .inl h
theorem Rd.ok {P : Program} {w : World} {H : Hp} {h : Heap} {a : Addr} {u : HO} (r : Rd H a u) (x : HOk P w H h) : ObjOk P w H h a u := by
  rcases r with r | ⟨o, r⟩
  · exact x a u r
  · obtain ⟨_, q⟩ := x a _ r
    exact q
noncomputable def Mut : Option HO → Prop
  | some (.lst _) => True
  | some (.dK _) => True
  | some (.dT _) => True
  | some (.set _ _) => True
  | some (.ins _ _ _) => True
  | some (.ext _) => True
  | _ => False
section
variable {P : Program} {w : World} {H : Hp} {h h' : Heap} {x e : Addr} {o' : HO}
theorem HOk.write (ok : HOk P w H h) (mu : Mut (H x)) (he : e = x ∨ H e = some (.own x)) (k : ∀ b u, b ≠ e → h.get? b = some u → h'.get? b = some u) (heo : ∃ u, h'.get? e = some u)
    (new : ObjOk P w (upd H x o') h' x o') : HOk P w (upd H x o') h' := fun b u q => by
  have nown : ∀ c y, H c = some (.own y) → c ≠ x := fun c y r z => by subst z; rw [r] at mu; exact mu
  have ntup : ∀ c xs, H c = some (.tup xs) → c ≠ x := fun c xs r z => by subst z; rw [r] at mu; exact mu
  by_cases hb : b = x
  · subst hb; rw [upd_same] at q; cases q; exact new
  · rw [upd_ne hb] at q
    by_cases hbe : b = e
    · have q' : H b = some (.own x) := by
        rcases he with z | z
        · exact absurd (hbe.trans z) hb
        · rw [hbe]; exact z
      rw [q] at q'; cases q'
      obtain ⟨v, hv⟩ := heo
      exact ⟨v, by rw [hbe]; exact hv⟩
    · refine (ok b u q).stay (fun c v hc r => k c v ?_ r) (fun c r => by rw [upd_ne (nown c b r)]; exact r) fun c xs r => by rw [upd_ne (ntup c xs r)]; exact r
      rcases hc with rfl | hc
      · exact hbe
      · rintro rfl
        rcases he with z | z
        · exact nown c b hc z
        · rw [hc] at z; cases z; exact hb rfl
end
structure Un (fs ex : List Addr) (H H' : Hp) (h h' : Heap) : Prop where
  keep : ∀ b o, h.get? b = some o → H b = none → b ∉ fs → b ∉ ex → h'.get? b = some o
  slot : ∀ b o, h.get? b = some o → H b = none → b ∈ fs → b ∉ ex → ∃ sl, h'.get? b = some { o with slots := sl }
  free : ∀ b o, h.get? b = some o → H b = none → b ∉ ex → H' b = none
  there : ∀ b o, h.get? b = some o → b ∉ ex → ∃ o', h'.get? b = some o'
  tups : ∀ b xs, H b = some (.tup xs) → H' b = some (.tup xs)
  frzs : ∀ b o u, H b = some (.frz o u) → H' b = some (.frz o u)
  tbls : ∀ b ps, H b = some (.tbl ps) → ∃ more, H' b = some (.tbl (ps ++ more))
section
variable {fs fs' ex ex' : List Addr} {H H1 H2 : Hp} {h h1 h2 h' : Heap} {a x e : Addr} {o : HO}
theorem Un.any (u : Un fs ex H H1 h h1) {b : Addr} {ob : Obj} (q : h.get? b = some ob) (n : H b = none) (hx : b ∉ ex) : ∃ sl, h1.get? b = some { ob with slots := sl } := by
  by_cases hb : b ∈ fs
  · exact u.slot b ob q n hb hx
  · exact ⟨ob.slots, u.keep b ob q n hb hx⟩
theorem Un.trans (a : Un fs ex H H1 h h1) (b : Un fs ex H1 H2 h1 h2) : Un fs ex H H2 h h2 where
  keep := fun c ob q n hc hx => b.keep c ob (a.keep c ob q n hc hx) (a.free c ob q n hx) hc hx
  slot := fun c ob q n hc hx => by
    obtain ⟨sl, e1⟩ := a.slot c ob q n hc hx
    obtain ⟨sl', e2⟩ := b.slot c _ e1 (a.free c ob q n hx) hc hx
    exact ⟨sl', e2⟩
  free := fun c ob q n hx => by
    obtain ⟨o', e1⟩ := a.there c ob q hx
    exact b.free c o' e1 (a.free c ob q n hx) hx
  there := fun c ob q hx => by
    obtain ⟨o', e1⟩ := a.there c ob q hx
    exact b.there c o' e1 hx
  tups := fun c xs q => b.tups c xs (a.tups c xs q)
  frzs := fun c ob xs q => b.frzs c ob xs (a.frzs c ob xs q)
  tbls := fun c ps q => by
    obtain ⟨m1, e1⟩ := a.tbls c ps q
    obtain ⟨m2, e2⟩ := b.tbls c _ e1
    exact ⟨m1 ++ m2, by rw [e2, Array.append_assoc]⟩
theorem Un.kept (k : ∀ b u, h.get? b = some u → h'.get? b = some u) : Un fs ex H H h h' :=
  ⟨fun b ob q _ _ _ => k b ob q, fun b ob q _ _ _ => ⟨ob.slots, k b ob q⟩, fun _ _ _ n _ => n, fun b ob q _ => ⟨ob, k b ob q⟩, fun _ _ q => q, fun _ _ _ q => q, fun _ ps q => ⟨#[], by rw [q]; simp⟩⟩
theorem Un.refl : Un fs ex H H h h := Un.kept fun _ _ q => q
theorem Un.laid (k : ∀ b u, h.get? b = some u → h'.get? b = some u) (hp : h.objs.size ≤ a) (hn : H a = none) : Un fs ex H (upd H a o) h h' where
  keep := fun b u q _ _ _ => k b u q
  slot := fun b u q _ _ _ => ⟨u.slots, k b u q⟩
  free := fun b u q n _ => by rw [upd_ne (Nat.ne_of_lt (Nat.lt_of_lt_of_le (Heap.lt_size q) hp))]; exact n
  there := fun b u q _ => ⟨u, k b u q⟩
  tups := fun b xs q => by rw [upd_ne (ne_of_none q hn)]; exact q
  frzs := fun b u xs q => by rw [upd_ne (ne_of_none q hn)]; exact q
  tbls := fun b ps q => ⟨#[], by rw [upd_ne (ne_of_none q hn), q]; simp⟩
theorem Un.write (mu : Mut (H x)) (he : e = x ∨ H e = some (.own x)) (k : ∀ b u, b ≠ e → h.get? b = some u → h'.get? b = some u) (heo : ∃ u, h'.get? e = some u) : Un fs ex H (upd H x o) h h' := by
  have hx : ∀ b, H b = none → b ≠ x := fun b n z => by subst z; rw [n] at mu; exact mu
  have hb : ∀ b, H b = none → b ≠ e := fun b n z => by
    subst z
    rcases he with r | r
    · exact hx b n r
    · rw [n] at r; cases r
  have hm : ∀ b u, H b = some u → ¬ Mut (some u) → b ≠ x := fun b u q nm z => by subst z; rw [q] at mu; exact nm mu
  refine ⟨fun b u q n _ _ => k b u (hb b n) q, fun b u q n _ _ => ⟨u.slots, k b u (hb b n) q⟩, fun b u q n _ => by rw [upd_ne (hx b n)]; exact n, fun b u q _ => ?_,
    fun b xs q => by rw [upd_ne (hm b _ q fun z => z)]; exact q, fun b u xs q => by rw [upd_ne (hm b _ q fun z => z)]; exact q, fun b ps q => ⟨#[], by rw [upd_ne (hm b _ q fun z => z), q]; simp⟩⟩
  by_cases hbe : b = e
  · subst hbe; exact heo
  · exact ⟨u, k b u hbe q⟩
theorem Un.mono (u : Un fs ex H H1 h h1) (hs : ∀ b ∈ fs, b ∈ fs') (hx : ∀ b ∈ ex, b ∈ ex') : Un fs' ex' H H1 h h1 :=
  ⟨fun b ob q n hb he => u.keep b ob q n (fun z => hb (hs b z)) fun z => he (hx b z), fun _ _ q n _ he => u.any q n fun z => he (hx _ z), fun b ob q n he => u.free b ob q n fun z => he (hx b z), fun b ob q he => u.there b ob q fun z => he (hx b z), u.tups, u.frzs, u.tbls⟩
end
noncomputable def trk (h : Heap) (H : Hp) : List Addr := (List.range h.objs.size).filter fun a => (H a).isSome
noncomputable def hidT (h : Heap) (H : Hp) : Heap := PySem.W.hideAll h (trk h H)
theorem hidT_size (h : Heap) (H : Hp) : (hidT h H).objs.size = h.objs.size := PySem.W.hideAll_size _ _
theorem hidT_get {h : Heap} {H : Hp} {b : Addr} {o : Obj} (e : h.get? b = some o) (n : H b = none) : (hidT h H).get? b = some o :=
  PySem.W.hideAll_get _ e fun hm => by
    have q : (H b).isSome = true := (List.mem_filter.mp hm).2
    rw [n] at q; simp at q
theorem of_hidT {h : Heap} {H : Hp} {b : Addr} {o : Obj} (e : (hidT h H).get? b = some o) : h.get? b = some o ∧ H b = none := by
  have e' : h.get? b = some o := PySem.W.of_hideAll (trk h H) e
  refine ⟨e', ?_⟩
  cases q : H b with
  | none => rfl
  | some x =>
    have hm : b ∈ trk h H := List.mem_filter.mpr ⟨List.mem_range.mpr (Heap.lt_size e'), by simp [q]⟩
    have z : (hidT h H).get? b = none := PySem.W.hideAll_none (trk h H) hm
    rw [z] at e; cases e
noncomputable def allNews (g h : Heap) (L : Addr) : List (Addr × Obj) := (List.range h.objs.size).filterMap fun a => if a = L ∨ (g.get? a).isSome = true then none else (h.get? a).map fun o => (a, o)
noncomputable def rest (g h : Heap) (L d : Addr) : List (Addr × Obj) := (allNews g h L).filter fun p => decide (p.1 ≠ d)
end L2
namespace L2
open PySem PySem.Spec PyProof.Rows
structure Mod (K : PySem.W.Frag) (mg : Str → Option Value) (base : Heap) : Prop where
  kin : K.In base
  glob : base.Ns mainGlobals mg
  blt : ∃ mb, base.Ns builtinsNs mb ∧ ∀ x : Str, x ≠ "__name__" → mb x = bootBuiltins x
  nolimit : base.NoLimit
structure Cx where
  prog : Program
  w : World
  K : PySem.W.Frag
  mg : Str → Option Value
  base : Heap
  A : Around
  N : List Str
  s₀ : Shared
  H₀ : Hp
  env : Env
  outer : List Env
  stack : List Env
  ex : List Addr
  fn : Str → Bool
  calm : Bool
  pn : List (Addr × Obj)
  xe : Value → Shared → Prop
noncomputable def frs (l : List Env) : List Addr := l.filterMap (·.frame)
noncomputable abbrev Cx.fs (X : Cx) : List Addr := frs X.outer
noncomputable def Vis (sc : Scope) (x : Str) : Prop := sc.names.lookup x = some .local ∨ sc.names.lookup x = some .cell ∨ sc.names.lookup x = some .free
noncomputable def Loc (sc : Scope) (x : Str) : Prop := sc.names.lookup x = some .local ∨ sc.names.lookup x = some .cell
noncomputable def Look (env : Env) (h : Heap) (m : Str → Option Value) (x : Str) (u : Value) : Prop :=
  (env.kindOf x = some .local ∧ m x = some u) ∨ ((env.kindOf x = some .cell ∨ env.kindOf x = some .free) ∧ ∃ c, env.cells.lookup x = some c ∧ h.IsCell c (some u))
structure Cx.Ok (X : Cx) : Prop where
  mod : Mod X.K X.mg X.base
  kind : X.env.scope.kind = .function
  glob : X.env.globals = mainGlobals
  blt : X.env.builtins = builtinsNs
  above : X.s₀.heap.objs.size ≤ X.env.locals
  inj : ∀ x y c, X.env.cells.lookup x = some c → X.env.cells.lookup y = some c → x = y
  has : ∀ x, (X.env.kindOf x = some .cell ∨ X.env.kindOf x = some .free) → ∃ c, X.env.cells.lookup x = some c
  cab : ∀ x c, X.fn x = true → X.env.cells.lookup x = some c → X.s₀.heap.objs.size ≤ c
  hd : X.calm = true → X.A.handled = none
  frames : X.A.frames = some X.stack
  stk : X.stack = X.outer ∨ (X.stack = X.env :: X.outer ∧ X.env.frame = some X.env.locals)
  exf : ∀ b ∈ X.ex, b ≠ X.env.locals ∧ ∀ x c, X.env.cells.lookup x = some c → c ≠ b
  bs : ∀ b o, X.base.get? b = some o → X.s₀.heap.get? b = some o ∧ X.H₀ b = none
  bsz : X.base.objs.size ≤ X.s₀.heap.objs.size
  noex : ∀ b o, X.base.get? b = some o → b ∉ X.ex
  exfs : ∀ b ∈ X.ex, b ∉ X.fs
  funs : X.s₀.heap.FunFrames X.base X.outer
  frf : ∀ b ∈ X.fs, X.H₀ b = none
structure Inv (X : Cx) (pins : List (Addr × Obj)) (σ : List (Option V)) (H : Hp) (s : Shared) : Prop where
  ok : X.Ok
  os : s.os = X.s₀.os
  bare : AllBare s.gens
  base : Un X.fs X.ex X.H₀ H X.s₀.heap s.heap
  loc : ∃ m, s.heap.Ns X.env.locals m ∧ ∀ (i : Nat) (x : Str) (v : V), X.N[i]? = some x → σ[i]? = some (some v) → Vis X.env.scope x → ∃ u, RelV v u ∧ Look X.env s.heap m x u
  cell : ∀ x c, X.env.cells.lookup x = some c → ∃ v, s.heap.IsCell c v
  free : H X.env.locals = none
  freeC : ∀ x c, X.env.cells.lookup x = some c → H c = none
  pin : ∀ p ∈ X.pn ++ pins, s.heap.get? p.1 = some p.2 ∧ H p.1 = none ∧ p.1 ≠ X.env.locals ∧ p.1 ∉ X.fs ∧ ∀ v, p.2.data ≠ .cell v
  hok : HOk X.prog X.w H s.heap
  len : σ.length = X.N.length
section
variable {X : Cx} {pins : List (Addr × Obj)} {σ : List (Option V)} {H H' : Hp} {s : Shared} {h' : Heap}
theorem Cx.Ok.nofr (ok : X.Ok) {b : Addr} {o : Obj} (e : X.base.get? b = some o) : b ∉ X.fs := fun hb => by
  have := (ok.funs.mem hb).1
  rw [e] at this; cases this
theorem Inv.bs (I : Inv X pins σ H s) : ∀ b o, X.base.get? b = some o → s.heap.get? b = some o ∧ H b = none := fun b o e =>
  ⟨I.base.keep b o (I.ok.bs b o e).1 (I.ok.bs b o e).2 (I.ok.nofr e) (I.ok.noex b o e), I.base.free b o (I.ok.bs b o e).1 (I.ok.bs b o e).2 (I.ok.noex b o e)⟩
theorem Inv.bk (I : Inv X pins σ H s) : ∀ b o, X.base.get? b = some o → s.heap.get? b = some o := fun b o e => (I.bs b o e).1
theorem Inv.mod (I : Inv X pins σ H s) : Mod X.K X.mg X.base := I.ok.mod
theorem Inv.kIn (I : Inv X pins σ H s) : X.K.In s.heap := I.ok.mod.kin.keeps I.bk
theorem Inv.nolimit (I : Inv X pins σ H s) : s.heap.NoLimit := I.ok.mod.nolimit.keeps I.bk
theorem Inv.fr (I : Inv X pins σ H s) : ∃ m, Fr X.base X.env.locals s.heap m :=
  let ⟨m, hn, _⟩ := I.loc
  ⟨m, hn, I.bk, Nat.le_trans I.ok.bsz I.ok.above⟩
theorem Inv.lt (I : Inv X pins σ H s) : X.env.locals < s.heap.objs.size := let ⟨_, hn, _⟩ := I.loc; hn.lt
theorem Inv.sz (I : Inv X pins σ H s) : X.s₀.heap.objs.size ≤ s.heap.objs.size := Nat.le_trans I.ok.above (Nat.le_of_lt I.lt)
theorem Inv.nofs (I : Inv X pins σ H s) {a : Addr} (h : s.heap.objs.size ≤ a) : a ∉ X.fs := fun hb => by
  obtain ⟨_, o, ho, _⟩ := I.ok.funs.mem hb
  exact absurd (Nat.lt_of_lt_of_le (Heap.lt_size ho) (Nat.le_trans I.sz h)) (Nat.lt_irrefl _)
theorem Inv.cne (I : Inv X pins σ H s) : ∀ x c, X.env.cells.lookup x = some c → c ≠ X.env.locals := fun x c e z => by
  obtain ⟨v, o, ho, hd⟩ := I.cell x c e
  obtain ⟨m, ⟨o', es, ep, ho', hd', _⟩, _⟩ := I.loc
  rw [z, ho'] at ho; cases ho; rw [hd'] at hd; cases hd
theorem Inv.funs (I : Inv X pins σ H s) : s.heap.FunFrames X.base X.outer := by
  have all : ∀ (l : List Env), (∀ b ∈ frs l, b ∈ X.fs) → X.s₀.heap.FunFrames X.base l → s.heap.FunFrames X.base l := by
    intro l
    induction l with
    | nil => intro _ _; trivial
    | cons env r ih =>
      intro hs hl
      obtain ⟨hk, ⟨L, o, hf, hn, ho, hd⟩, hr⟩ := hl
      have hL : L ∈ X.fs := hs L (by unfold frs; rw [List.filterMap_cons, hf]; exact List.mem_cons_self)
      obtain ⟨sl, e⟩ := I.base.slot L o ho (I.ok.frf L hL) hL fun z => I.ok.exfs L z hL
      exact ⟨hk, ⟨L, _, hf, hn, e, hd⟩, ih (fun b hb => hs b (by unfold frs; rw [List.filterMap_cons, hf]; exact List.mem_cons_of_mem _ hb)) hr⟩
  exact all X.outer (fun _ hb => hb) I.ok.funs
theorem Inv.stack (I : Inv X pins σ H s) : s.heap.FunFrames X.base X.stack := by
  rcases I.ok.stk with e | ⟨e, hf⟩
  · rw [e]; exact I.funs
  · rw [e]
    obtain ⟨m, hn, _⟩ := I.loc
    refine .cons (by rw [I.ok.kind]; decide) hf hn ?_ I.funs
    exact Heap.get?_none_of_le (Nat.le_trans I.ok.bsz I.ok.above)
theorem Inv.stkSub (I : Inv X pins σ H s) : ∀ b ∈ frs X.stack, b ∈ X.env.locals :: X.fs := fun b hb => by
  rcases I.ok.stk with e | ⟨e, hf⟩
  · rw [e] at hb; exact List.mem_cons_of_mem _ hb
  · rw [e] at hb
    unfold frs at hb
    rw [List.filterMap_cons, hf] at hb
    exact hb
theorem Inv.stkFree (I : Inv X pins σ H s) : ∀ b ∈ frs X.stack, H b = none := fun b hb => by
  rcases List.mem_cons.mp (I.stkSub b hb) with e | hb
  · rw [e]; exact I.free
  · obtain ⟨_, o, ho, _⟩ := I.ok.funs.mem hb
    exact I.base.free b o ho (I.ok.frf b hb) fun z => I.ok.exfs b z hb
theorem Inv.step {g' : Array GenState} {t' : Nat} {d' : Drawn} {ch : List Addr} (I : Inv X pins σ H s)
    (hch : ∀ b ∈ ch, (b ∈ X.ex ∨ X.s₀.heap.objs.size ≤ b) ∧ b ≠ X.env.locals ∧ (∀ x c, X.env.cells.lookup x = some c → c ≠ b) ∧ ∀ p ∈ X.pn ++ pins, p.1 ≠ b)
    (keep : ∀ b o, b ≠ X.env.locals → b ∉ X.fs → b ∉ ch → s.heap.get? b = some o → H b = none → h'.get? b = some o)
    (slot : ∀ b o, b ≠ X.env.locals → b ∈ X.fs → b ∉ ch → s.heap.get? b = some o → H b = none → ∃ sl, h'.get? b = some { o with slots := sl }) (free : ∀ b o, b ∉ ch → s.heap.get? b = some o → H b = none → H' b = none)
    (there : ∀ b o, b ∉ ch → s.heap.get? b = some o → ∃ o', h'.get? b = some o')
    (tups : ∀ b xs, H b = some (.tup xs) → H' b = some (.tup xs)) (frzs : ∀ b o u, H b = some (.frz o u) → H' b = some (.frz o u)) (tbls : ∀ b ps, H b = some (.tbl ps) → ∃ more, H' b = some (.tbl (ps ++ more)))
    (ns : ∀ m, s.heap.Ns X.env.locals m → h'.Ns X.env.locals m) (hok : HOk X.prog X.w H' h') (hg : AllBare g') :
    Inv X pins σ H' { s with heap := h', gens := g', drawn := d', toks := t' } := by
  have neL : ∀ b o, X.s₀.heap.get? b = some o → b ≠ X.env.locals := fun b o e => Nat.ne_of_lt (Nat.lt_of_lt_of_le (Heap.lt_size e) I.ok.above)
  have neC : ∀ b o, X.s₀.heap.get? b = some o → b ∉ X.ex → b ∉ ch := fun b o e hx hb => by
    rcases (hch b hb).1 with z | z
    · exact hx z
    · exact absurd (Nat.lt_of_lt_of_le (Heap.lt_size e) z) (Nat.lt_irrefl _)
  have cellK : ∀ x c, X.env.cells.lookup x = some c → ∀ v, s.heap.IsCell c v → h'.IsCell c v := fun x c e v ⟨o, ho, hd⟩ => by
    have nch : c ∉ ch := fun z => (hch c z).2.2.1 x c e rfl
    by_cases hc : c ∈ X.fs
    · obtain ⟨sl, q⟩ := slot c o (I.cne x c e) hc nch ho (I.freeC x c e)
      exact ⟨_, q, hd⟩
    · exact ⟨o, keep c o (I.cne x c e) hc nch ho (I.freeC x c e), hd⟩
  refine ⟨I.ok, I.os, hg, ⟨fun b o e n hb hx => ?_, fun b o e n hb hx => ?_, fun b o e n hx => ?_, fun b o e hx => ?_, fun b xs e => tups b xs (I.base.tups b xs e), fun b o xs e => frzs b o xs (I.base.frzs b o xs e), fun b ps e => ?_⟩, ?_, fun x c e => ?_, ?_, fun x c e => ?_, fun p hp => ?_, hok, I.len⟩
  · exact keep b o (neL b o e) hb (neC b o e hx) (I.base.keep b o e n hb hx) (I.base.free b o e n hx)
  · obtain ⟨sl, e1⟩ := I.base.slot b o e n hb hx
    obtain ⟨sl', e2⟩ := slot b _ (neL b o e) hb (neC b o e hx) e1 (I.base.free b o e n hx)
    exact ⟨sl', e2⟩
  · obtain ⟨o', e1⟩ := I.base.there b o e hx
    exact free b o' (neC b o e hx) e1 (I.base.free b o e n hx)
  · obtain ⟨o', e1⟩ := I.base.there b o e hx
    exact there b o' (neC b o e hx) e1
  · obtain ⟨m1, e1⟩ := I.base.tbls b ps e
    obtain ⟨m2, e2⟩ := tbls b _ e1
    exact ⟨m1 ++ m2, by rw [e2, Array.append_assoc]⟩
  · obtain ⟨m, hn, hl⟩ := I.loc
    refine ⟨m, ns m hn, fun i x v e1 e2 e3 => ?_⟩
    obtain ⟨u, r, l⟩ := hl i x v e1 e2 e3
    refine ⟨u, r, ?_⟩
    rcases l with l | ⟨k, c, e, z⟩
    · exact .inl l
    · exact .inr ⟨k, c, e, cellK x c e _ z⟩
  · obtain ⟨v, z⟩ := I.cell x c e
    exact ⟨v, cellK x c e v z⟩
  · obtain ⟨m, ⟨o, _, _, ho, _⟩, _⟩ := I.loc
    exact free _ o (fun z => (hch _ z).2.1 rfl) ho I.free
  · obtain ⟨v, o, ho, hd⟩ := I.cell x c e
    exact free c o (fun z => (hch c z).2.2.1 x c e rfl) ho (I.freeC x c e)
  · obtain ⟨e, n, ne, nf, d⟩ := I.pin p hp
    have nch : p.1 ∉ ch := fun z => (hch p.1 z).2.2.2 p hp rfl
    exact ⟨keep p.1 p.2 ne nf nch e n, free p.1 p.2 nch e n, ne, nf, d⟩
theorem Inv.un {t' : Nat} (I : Inv X pins σ H s) (u : Un X.fs [] H H' s.heap h') (hok : HOk X.prog X.w H' h') : Inv X pins σ H' { s with heap := h', toks := t' } := by
  obtain ⟨m, ⟨o, es, ep, ho, r⟩, _⟩ := id I.loc
  obtain ⟨sl, hL⟩ := u.any ho I.free (by simp)
  exact I.step (g' := s.gens) (d' := s.drawn) (ch := []) (fun _ z => nomatch z) (fun b o _ hb _ e n => u.keep b o e n hb (by simp)) (fun b o _ hb _ e n => u.slot b o e n hb (by simp)) (fun b o _ e n => u.free b o e n (by simp)) (fun b o _ e => u.there b o e (by simp)) u.tups u.frzs u.tbls (fun m' hm => by
    obtain ⟨o', es', ep', ho', r'⟩ := hm
    rw [ho] at ho'; cases ho'
    exact ⟨_, es', ep', hL, r'⟩) hok I.bare
theorem Inv.call {g' : Array GenState} {t' : Nat} {d' : Drawn} {ch : List Addr} (I : Inv X pins σ H s) (u : Un (frs X.stack) ch H H' s.heap h') (hok : HOk X.prog X.w H' h') (hg : AllBare g')
    (hch : ∀ b ∈ ch, (b ∈ X.ex ∨ X.s₀.heap.objs.size ≤ b) ∧ b ≠ X.env.locals ∧ (∀ x c, X.env.cells.lookup x = some c → c ≠ b) ∧ ∀ p ∈ X.pn ++ pins, p.1 ≠ b) :
    Inv X pins σ H' { s with heap := h', gens := g', drawn := d', toks := t' } := by
  obtain ⟨m, ⟨o, es, ep, ho, r⟩, _⟩ := id I.loc
  obtain ⟨sl, hL⟩ := u.any ho I.free fun z => (hch _ z).2.1 rfl
  exact I.step (ch := ch) hch (fun b o hL hb hc e n => u.keep b o e n (fun z => (List.mem_cons.mp (I.stkSub b z)).elim hL hb) hc) (fun b o _ _ hc e n => u.any e n hc) (fun b o hc e n => u.free b o e n hc) (fun b o hc e => u.there b o e hc) u.tups u.frzs u.tbls (fun m' hm => by
    obtain ⟨o', es', ep', ho', r'⟩ := hm
    rw [ho] at ho'; cases ho'
    exact ⟨_, es', ep', hL, r'⟩) hok hg
theorem Inv.turned {t' : Nat} {it : Addr} (I : Inv X pins σ H s) (k : ∀ b o, b ≠ it → s.heap.get? b = some o → h'.get? b = some o) (hn : H it = none) (hL : it ≠ X.env.locals)
    (h1 : it ∈ X.ex ∨ X.s₀.heap.objs.size ≤ it) (h2 : ∀ x c, X.env.cells.lookup x = some c → c ≠ it) (h3 : ∀ p ∈ X.pn ++ pins, p.1 ≠ it) : Inv X pins σ H { s with heap := h', toks := t' } := by
  have nit : ∀ b u, H b = some u → b ≠ it := fun b u e z => by rw [z, hn] at e; cases e
  refine I.step (g' := s.gens) (d' := s.drawn) (ch := [it]) (fun b hb => ?_) (fun b o _ _ hc e _ => k b o (fun z => hc (by simp [z])) e) (fun b o _ _ hc e _ => ⟨o.slots, k b o (fun z => hc (by simp [z])) e⟩) (fun _ _ _ _ n => n)
    (fun b o hc e => ⟨o, k b o (fun z => hc (by simp [z])) e⟩) (fun _ _ e => e) (fun _ _ _ e => e) (fun b ps e => ⟨#[], by rw [e]; simp⟩) (fun m hm => ?_) (fun b u e => ?_) I.bare
  · have e : b = it := by simpa using hb
    subst e
    exact ⟨h1, hL, h2, h3⟩
  · obtain ⟨o, es, ep, ho, r⟩ := hm
    exact ⟨o, es, ep, k _ o (Ne.symm hL) ho, r⟩
  · refine (I.hok b u e).stay (fun c v hc q => k c v ?_ q) (fun _ q => q) fun _ _ q => q
    rcases hc with z | z
    · rw [z]; exact nit b u e
    · exact nit c _ z
theorem Inv.tok (I : Inv X pins σ H s) (t : Nat) : Inv X pins σ H { s with toks := t } := I.un (h' := s.heap) (t' := t) Un.refl I.hok
theorem Inv.kept {t' : Nat} (I : Inv X pins σ H s) (k : ∀ b u, s.heap.get? b = some u → h'.get? b = some u) : Inv X pins σ H { s with heap := h', toks := t' } := I.un (Un.kept k) (I.hok.kept k)
theorem Inv.laid {a : Addr} {o : HO} {t' : Nat} (I : Inv X pins σ H s) (k : ∀ b u, s.heap.get? b = some u → h'.get? b = some u) (hp : s.heap.objs.size ≤ a) (new : ObjOk X.prog X.w (upd H a o) h' a o) :
    Inv X pins σ (upd H a o) { s with heap := h', toks := t' } := I.un (Un.laid k hp (I.hok.fresh hp)) (I.hok.laid k hp new)
theorem Inv.write {x e : Addr} {o : HO} {t' : Nat} (I : Inv X pins σ H s) (mu : Mut (H x)) (he : e = x ∨ H e = some (.own x)) (k : ∀ b u, b ≠ e → s.heap.get? b = some u → h'.get? b = some u) (heo : ∃ u, h'.get? e = some u)
    (new : ObjOk X.prog X.w (upd H x o) h' x o) : Inv X pins σ (upd H x o) { s with heap := h', toks := t' } := I.un (Un.write mu he k heo) (I.hok.write mu he k heo new)
theorem Inv.weak {σ' : List (Option V)} (I : Inv X pins σ H s) (hl : σ'.length = σ.length) (w : ∀ (i : Nat) v, σ'[i]? = some (some v) → σ[i]? = some (some v)) : Inv X pins σ' H s :=
  ⟨I.ok, I.os, I.bare, I.base, let ⟨m, hn, hl'⟩ := I.loc; ⟨m, hn, fun i x v e1 e2 e3 => hl' i x v e1 (w i v e2) e3⟩, I.cell, I.free, I.freeC, I.pin, I.hok, hl.trans I.len⟩
theorem Inv.pins_of {pins' : List (Addr × Obj)} (I : Inv X pins σ H s) (h : ∀ p ∈ pins', s.heap.get? p.1 = some p.2 ∧ H p.1 = none ∧ p.1 ≠ X.env.locals ∧ p.1 ∉ X.fs ∧ ∀ v, p.2.data ≠ .cell v) : Inv X pins' σ H s :=
  ⟨I.ok, I.os, I.bare, I.base, I.loc, I.cell, I.free, I.freeC, fun p hp => (List.mem_append.mp hp).elim (fun z => I.pin p (List.mem_append_left _ z)) (h p), I.hok, I.len⟩
theorem nodup_ix {N : List Str} (hN : N.Nodup) {i j : Nat} {x : Str} (a : N[i]? = some x) (b : N[j]? = some x) : i = j := by
  obtain ⟨h1, e1⟩ := List.getElem?_eq_some_iff.mp a
  obtain ⟨h2, e2⟩ := List.getElem?_eq_some_iff.mp b
  exact (List.getElem_inj hN).mp (e1.trans e2.symm)
theorem store_ok2 {M : Model} {A : Around} {E : Value → Shared → Prop} {i : Nat} {x : Str} {v : V} {u : Value} {Q : Unit → Shared → Prop} (I : Inv X pins σ H s) (hN : X.N.Nodup) (hi : X.N[i]? = some x) (hx : Loc X.env.scope x) (r : RelV v u)
    (h : ∀ s', Inv X pins (σ.set i (some v)) H s' → (∃ a, Heap.SameBut a s.heap s'.heap ∧ (a = X.env.locals ∨ X.env.cells.lookup x = some a)) → Q () s') (hf : X.fn x = true ∨ X.env.scope.names.lookup x = some .local := by first | exact .inl rfl | exact .inr rfl | assumption) : wpAny M A (storeName X.env x u) Q E s := by
  obtain ⟨m, hn, hl⟩ := id I.loc
  have hcls : (X.env.scope.kind == .class || (X.env.scope.kind == .module && X.env.locals != X.env.globals)) = false := by rw [I.ok.kind]; rfl
  have hiσ : i < σ.length := by rw [I.len]; exact (List.getElem?_eq_some_iff.mp hi).1
  have cne := I.cne
  have tracked : ∀ {a : Addr} {h' : Heap}, (∃ o, s.heap.get? a = some o ∧ H a = none) → Heap.SameBut a s.heap h' → HOk X.prog X.w H h' := fun {a h'} ha hs b ob e => by
    obtain ⟨_, _, hfree⟩ := ha
    refine (I.hok b ob e).stay (fun c w' hc q => (hs.2 c ?_).trans q) (fun _ q => q) fun _ _ q => q
    rintro rfl
    rcases hc with rfl | hc
    · rw [hfree] at e; cases e
    · rw [hfree] at hc; cases hc
  rcases hx with hk | hk
  · refine wpAny_storeName_local hk hn (fun h' hn' hs => ?_) hcls
    obtain ⟨oL, _, _, hoL, _⟩ := id hn
    refine h _ ⟨I.ok, I.os, I.bare, ⟨fun b o e n hb hx => ?_, fun b o e n hb hx => ?_, I.base.free, fun b o e hx => ?_, I.base.tups, I.base.frzs, I.base.tbls⟩, ⟨_, hn', fun j y v' e1 e2 e3 => ?_⟩, fun y c e => ?_, I.free, I.freeC, fun p hp => ?_, tracked ⟨oL, hoL, I.free⟩ hs, by simpa using I.len⟩ ⟨_, hs, .inl rfl⟩
    · exact (hs.2 b (Nat.ne_of_lt (Nat.lt_of_lt_of_le (Heap.lt_size e) I.ok.above))).trans (I.base.keep b o e n hb hx)
    · obtain ⟨sl, e1⟩ := I.base.slot b o e n hb hx
      exact ⟨sl, (hs.2 b (Nat.ne_of_lt (Nat.lt_of_lt_of_le (Heap.lt_size e) I.ok.above))).trans e1⟩
    · obtain ⟨o', e1⟩ := I.base.there b o e hx
      exact ⟨o', (hs.2 b (Nat.ne_of_lt (Nat.lt_of_lt_of_le (Heap.lt_size e) I.ok.above))).trans e1⟩
    · by_cases hj : j = i
      · subst hj
        rw [hi] at e1; cases e1
        rw [List.getElem?_set_self hiσ] at e2
        cases e2
        exact ⟨u, r, .inl ⟨hk, by simp⟩⟩
      · rw [List.getElem?_set_ne (Ne.symm hj)] at e2
        obtain ⟨u', r', q⟩ := hl j y v' e1 e2 e3
        refine ⟨u', r', ?_⟩
        rcases q with ⟨k, e⟩ | ⟨k, c, e, z⟩
        · refine .inl ⟨k, ?_⟩
          have : y ≠ x := fun e => hj (nodup_ix hN e1 (e ▸ hi))
          simp [this, e]
        · exact .inr ⟨k, c, e, z.sameBut hs (cne y c e)⟩
    · obtain ⟨w', z⟩ := I.cell y c e
      exact ⟨w', z.sameBut hs (cne y c e)⟩
    · obtain ⟨e, n, ne, nf, d⟩ := I.pin p hp
      exact ⟨(hs.2 p.1 ne).trans e, n, ne, nf, d⟩
  · have hfn : X.fn x = true := by
      rcases hf with z | z
      · exact z
      · rw [z] at hk; cases hk
    obtain ⟨c, hc⟩ := I.ok.has x (.inl hk)
    obtain ⟨w', z⟩ := I.cell x c hc
    refine wpAny_storeName_cell I.ok.kind hk hc z (fun h' hc' hs => ?_)
    obtain ⟨oc, hoc, hocd⟩ := id z
    refine h { s with heap := h' } ⟨I.ok, I.os, I.bare, ⟨fun b o e n hb hx => ?_, fun b o e n hb hx => ?_, I.base.free, fun b o e hx => ?_, I.base.tups, I.base.frzs, I.base.tbls⟩, ⟨m, hn.sameBut hs (Ne.symm (cne x c hc)), fun j y v' e1 e2 e3 => ?_⟩, fun y c' e => ?_, I.free, I.freeC, fun p hp => ?_, tracked ⟨oc, hoc, I.freeC x c hc⟩ hs, by simpa using I.len⟩ ⟨c, hs, .inr hc⟩
    · exact (hs.2 b (Nat.ne_of_lt (Nat.lt_of_lt_of_le (Heap.lt_size e) (I.ok.cab x c hfn hc)))).trans (I.base.keep b o e n hb hx)
    · obtain ⟨sl, e1⟩ := I.base.slot b o e n hb hx
      exact ⟨sl, (hs.2 b (Nat.ne_of_lt (Nat.lt_of_lt_of_le (Heap.lt_size e) (I.ok.cab x c hfn hc)))).trans e1⟩
    · obtain ⟨o', e1⟩ := I.base.there b o e hx
      exact ⟨o', (hs.2 b (Nat.ne_of_lt (Nat.lt_of_lt_of_le (Heap.lt_size e) (I.ok.cab x c hfn hc)))).trans e1⟩
    · by_cases hj : j = i
      · subst hj
        rw [hi] at e1; cases e1
        rw [List.getElem?_set_self hiσ] at e2
        cases e2
        exact ⟨u, r, .inr ⟨.inl hk, c, hc, hc'⟩⟩
      · rw [List.getElem?_set_ne (Ne.symm hj)] at e2
        obtain ⟨u', r', q⟩ := hl j y v' e1 e2 e3
        refine ⟨u', r', ?_⟩
        rcases q with q | ⟨k, c', e, z'⟩
        · exact .inl q
        · refine .inr ⟨k, c', e, z'.sameBut hs ?_⟩
          rintro rfl
          exact hj (nodup_ix hN e1 (I.ok.inj _ _ _ e hc ▸ hi))
    · by_cases hcc : c' = c
      · subst hcc; exact ⟨_, hc'⟩
      · obtain ⟨w2, z2⟩ := I.cell y c' e
        exact ⟨w2, z2.sameBut hs hcc⟩
    · obtain ⟨e, n, ne, nf, d⟩ := I.pin p hp
      refine ⟨(hs.2 p.1 ?_).trans e, n, ne, nf, d⟩
      intro q
      rw [q, hoc] at e
      have q' : oc = p.2 := Option.some.inj e
      exact d w' (by rw [← q']; exact hocd)
theorem store_ok {M : Model} {A : Around} {E : Value → Shared → Prop} {i : Nat} {x : Str} {v : V} {u : Value} {Q : Unit → Shared → Prop} (I : Inv X pins σ H s) (hN : X.N.Nodup) (hi : X.N[i]? = some x) (hx : Loc X.env.scope x) (r : RelV v u)
    (h : ∀ s', Inv X pins (σ.set i (some v)) H s' → Q () s') (hf : X.fn x = true ∨ X.env.scope.names.lookup x = some .local := by first | exact .inl rfl | exact .inr rfl | assumption) : wpAny M A (storeName X.env x u) Q E s :=
  store_ok2 I hN hi hx r (fun s' I' _ => h s' I') hf
theorem Inv.call' {s' : Shared} {ch : List Addr} (I : Inv X pins σ H s) (ho : s'.os = s.os) (u : Un (frs X.stack) ch H H' s.heap s'.heap) (hok : HOk X.prog X.w H' s'.heap) (hg : AllBare s'.gens)
    (hch : ∀ b ∈ ch, (b ∈ X.ex ∨ X.s₀.heap.objs.size ≤ b) ∧ b ≠ X.env.locals ∧ (∀ x c, X.env.cells.lookup x = some c → c ≠ b) ∧ ∀ p ∈ X.pn ++ pins, p.1 ≠ b) : Inv X pins σ H' s' := by
  obtain ⟨h', g', d', t', o'⟩ := s'
  have e : o' = s.os := ho
  subst e
  exact I.call (g' := g') (t' := t') (d' := d') u hok hg hch
end
noncomputable abbrev XK := Value → Option Addr → Hp → Prop
noncomputable abbrev St := List (Option V)
noncomputable abbrev VK := V → Hp → Prop
noncomputable abbrev TE := St → Hp → VK → Prop
noncomputable abbrev TT := St → Hp → (Bool → Hp → Prop) → Prop
noncomputable abbrev TA := St → Hp → (List V → Hp → Prop) → Prop
structure Ends where
  nx : St → Hp → Prop
  rt : VK
  bk : St → Hp → Prop := fun _ _ => False
  ct : St → Hp → Prop := fun _ _ => False
noncomputable abbrev TS := Ends → St → Hp → Prop
noncomputable def EP (X : Cx) (pins : List (Addr × Obj)) (σ : St) (Q : VK) (u : Value) (s' : Shared) : Prop := ∃ v H', Inv X pins σ H' s' ∧ RelV v u ∧ Q v H'
noncomputable def TP (X : Cx) (pins : List (Addr × Obj)) (σ : St) (Q : Bool → Hp → Prop) (b : Bool) (s' : Shared) : Prop := ∃ H', Inv X pins σ H' s' ∧ Q b H'
noncomputable def AP (X : Cx) (pins : List (Addr × Obj)) (σ : St) (Q : List V → Hp → Prop) (us : List Value) (s' : Shared) : Prop := ∃ vs H', Inv X pins σ H' s' ∧ Vals vs us ∧ Q vs H'
noncomputable def SP (X : Cx) (pins : List (Addr × Obj)) (D : Ends) (f : Flow) (s' : Shared) : Prop :=
  match f with
  | .next => ∃ σ' H', Inv X pins σ' H' s' ∧ D.nx σ' H'
  | .brk => ∃ σ' H', Inv X pins σ' H' s' ∧ D.bk σ' H'
  | .cont => ∃ σ' H', Inv X pins σ' H' s' ∧ D.ct σ' H'
  | .ret u => ∃ v σ' H', Inv X pins σ' H' s' ∧ RelV v u ∧ D.rt v H'
noncomputable def PE (X : Cx) (e : Expr) (t : TE) : Prop :=
  ∀ (pins : List (Addr × Obj)) (s : Shared) (σ : St) (H : Hp) (Q : VK), Inv X pins σ H s → t σ H Q → wpAny (model X.prog X.w) X.A (eval e X.env) (EP X pins σ Q) X.xe s
noncomputable def PT (X : Cx) (e : Expr) (t : TT) : Prop :=
  ∀ (pins : List (Addr × Obj)) (s : Shared) (σ : St) (H : Hp) (Q : Bool → Hp → Prop), Inv X pins σ H s → t σ H Q → wpAny (model X.prog X.w) X.A (isTrue e X.env (eval e X.env)) (TP X pins σ Q) X.xe s
noncomputable def PW (X : Cx) (e : Expr) (t : TT) : Prop :=
  ∀ (whole : Sem Value) (pins : List (Addr × Obj)) (s : Shared) (σ : St) (H : Hp) (Q : Bool → Hp → Prop), Inv X pins σ H s → t σ H Q → wpAny (model X.prog X.w) X.A (isTrue e X.env whole) (TP X pins σ Q) X.xe s
theorem PW.pt {X : Cx} {e : Expr} {t : TT} (h : PW X e t) : PT X e t := h _
noncomputable def PA (X : Cx) (es : List Expr) (t : TA) : Prop :=
  ∀ (pos : Pos) (pins : List (Addr × Obj)) (s : Shared) (σ : St) (H : Hp) (Q : List V → Hp → Prop), Inv X pins σ H s → t σ H Q → wpAny (model X.prog X.w) X.A (spliced (backTo pos (starEach es X.env))) (AP X pins σ Q) X.xe s
noncomputable def PS (X : Cx) (st : Stmt) (t : TS) : Prop :=
  ∀ (pins : List (Addr × Obj)) (s : Shared) (σ : St) (H : Hp) (D : Ends), Inv X pins σ H s → t D σ H → wpAny (model X.prog X.w) X.A (exec st X.env) (SP X pins D) X.xe s
noncomputable def PSs (X : Cx) (st : List Stmt) (t : TS) : Prop :=
  ∀ (pins : List (Addr × Obj)) (s : Shared) (σ : St) (H : Hp) (D : Ends), Inv X pins σ H s → t D σ H → wpAny (model X.prog X.w) X.A (execs st X.env) (SP X pins D) X.xe s
theorem thn {α : Type} {t : Sem α} {Q Q' : α → Shared → Prop} {M : Model} {A : Around} {E : Value → Shared → Prop} {s : Shared} (h : wpAny M A t Q E s) (hQ : ∀ a s, Q a s → Q' a s) : wpAny M A t Q' E s := wpAny_mono h hQ fun _ _ x => x
end L2
namespace L2
open PySem PySem.Spec PyProof.Rows
section
variable {X : Cx}
noncomputable def tVar (i : Nat) : TE := fun σ H Q => ∃ v, σ[i]? = some (some v) ∧ Q v H
noncomputable def tC (v : V) : TE := fun _ H Q => Q v H
theorem pe_var {i : Nat} {x : Str} {pos : Pos} (hN : X.N[i]? = some x) (hv : Vis X.env.scope x) (hd : (x == ("__debug__" : Str)) = false := by decide) (hcd : (x == ("__classdict__" : Str)) = false := by decide) : PE X (.Name x pos) (tVar i) := by
  intro pins s σ H Q I h
  obtain ⟨v, e, h⟩ := h
  obtain ⟨m, hn, hl⟩ := I.loc
  obtain ⟨u, r, l⟩ := hl i x v hN e hv
  have fin : EP X pins σ Q u s := ⟨v, H, I, r, h⟩
  rcases l with ⟨hk, hm⟩ | ⟨hk, c, hc, hcell⟩
  · exact wpAny_Name (wpAny_loadName_local I.ok.kind hk hn hm fin) hd
  · rcases hk with hk | hk
    · exact wpAny_Name (wpAny_loadName_cell I.ok.kind hk hc hcell fin) hd
    · exact wpAny_Name (wpAny_loadName_free I.ok.kind hk hc hcell fin hcd) hd
theorem pe_int {i j pos} : PE X (.Constant (.int i) j pos) (tC (.int i)) := fun _ _ _ H _ I h => wpAny_Constant_int ⟨.int i, H, I.tok _, ⟨_, rfl⟩, h⟩
theorem pe_bl {b j pos} : PE X (.Constant (.bool b) j pos) (tC (.bl b)) := fun _ _ _ H _ I h => Constant_bool ⟨.bl b, H, I, rfl, h⟩
theorem pe_str {x j pos} : PE X (.Constant (.str x) j pos) (tC (.str x)) := fun _ _ _ H _ I h => Calls.Constant_str ⟨.str x, H, I.tok _, ⟨_, rfl⟩, h⟩
noncomputable def Gl (X : Cx) (x : Str) : Prop := X.env.kindOf x = some .globalImplicit
theorem ld_glob {E : Value → Shared → Prop} {pins : List (Addr × Obj)} {s : Shared} {σ : St} {H : Hp} {x : Str} {u : Value} {pos : Pos} {Q : Value → Shared → Prop} (I : Inv X pins σ H s) (hg : Gl X x) (hm : X.mg x = some u) (h : Q u s)
    (hd : (x == ("__debug__" : Str)) = false := by decide) : wpAny (model X.prog X.w) X.A (eval (.Name x pos) X.env) Q E s :=
  Calls.Name_function_global I.ok.kind hg (Calls.loadGlobal_global (by rw [I.ok.glob]; exact I.mod.glob.keeps I.bk) hm h) hd
theorem ld_blt {E : Value → Shared → Prop} {pins : List (Addr × Obj)} {s : Shared} {σ : St} {H : Hp} {x : Str} {u : Value} {pos : Pos} {Q : Value → Shared → Prop} (I : Inv X pins σ H s) (hg : Gl X x) (hm : X.mg x = none) (hv : bootBuiltins x = some u) (h : Q u s)
    (hn : x ≠ "__name__" := by decide) (hd : (x == ("__debug__" : Str)) = false := by decide) : wpAny (model X.prog X.w) X.A (eval (.Name x pos) X.env) Q E s := by
  obtain ⟨mb, h1, h2⟩ := I.mod.blt
  exact Calls.Name_function_global I.ok.kind hg (Calls.loadGlobal_builtin (by rw [I.ok.glob]; exact I.mod.glob.keeps I.bk) hm (by rw [I.ok.blt]; exact h1.keeps I.bk) ((h2 x hn).trans hv) h) hd
theorem pe_glob {x : Str} {v : V} {u : Value} {pos : Pos} (hg : Gl X x) (hm : X.mg x = some u) (r : RelV v u) (hd : (x == ("__debug__" : Str)) = false := by decide) : PE X (.Name x pos) (tC v) :=
  fun _ _ _ H _ I h => ld_glob I hg hm ⟨v, H, I, r, h⟩ hd
theorem pe_bltn {x : Str} {v : V} {u : Value} {pos : Pos} (hg : Gl X x) (hm : X.mg x = none) (hv : bootBuiltins x = some u) (r : RelV v u) (hn : x ≠ "__name__" := by decide) (hd : (x == ("__debug__" : Str)) = false := by decide) : PE X (.Name x pos) (tC v) :=
  fun _ _ _ H _ I h => ld_blt I hg hm hv ⟨v, H, I, r, h⟩ hn hd
variable {a b : Expr} {ta tb : TE} {pos : Pos}
noncomputable def tB (t : TE) : TT := fun σ H Q => t σ H fun x H1 => ∃ c, x = .bl c ∧ Q c H1
theorem pt_val {e : Expr} {t : TE} (h : PE X e t) (he : ∀ whole, isTrue e X.env whole = (do let v ← whole; standAt e.pos; holding [v] (truthy v)) := by intro _; rfl) : PT X e (tB t) := by
  intro pins s σ H Q I hw
  refine isTrue_plain (thn (h pins s σ H _ I hw) fun v s1 ⟨x, H1, I1, r1, q1⟩ => ?_) (he _)
  obtain ⟨d, rfl, q⟩ := q1
  cases r1
  exact wpAny_truthy_bool ⟨H1, I1, q⟩
variable {tA tB' : TT} {rest : List Expr}
noncomputable def tAnd (t u : TT) : TT := fun σ H Q => t σ H fun c H1 => if c = true then u σ H1 Q else Q false H1
noncomputable def tOr (t u : TT) : TT := fun σ H Q => t σ H fun c H1 => if c = true then Q true H1 else u σ H1 Q
noncomputable def tNot (t : TT) : TT := fun σ H Q => t σ H fun c H1 => Q (!c) H1
theorem pw_and1 (ha : PT X a tA) : PW X (.BoolOp .And [a] pos) tA := by
  intro wh pins s σ H Q I h
  refine isTrue_and (thn (ha pins s σ H Q I h) fun c s1 e => ?_)
  cases c with
  | true => exact isTrue_and_nil e
  | false => exact e
theorem pw_or1 (ha : PT X a tA) : PW X (.BoolOp .Or [a] pos) tA := by
  intro wh pins s σ H Q I h
  refine isTrue_or (thn (ha pins s σ H Q I h) fun c s1 e => ?_)
  cases c with
  | false => exact isTrue_or_nil e
  | true => exact e
theorem pw_and (ha : PT X a tA) (hb : PW X (.BoolOp .And (b :: rest) pos) tB') : PW X (.BoolOp .And (a :: b :: rest) pos) (tAnd tA tB') := by
  intro wh pins s σ H Q I h
  refine isTrue_and (thn (ha pins s σ H _ I h) fun c s1 ⟨H1, I1, q1⟩ => ?_)
  cases c with
  | true => exact hb wh pins s1 σ H1 Q I1 q1
  | false => exact ⟨H1, I1, q1⟩
theorem pw_or (ha : PT X a tA) (hb : PW X (.BoolOp .Or (b :: rest) pos) tB') : PW X (.BoolOp .Or (a :: b :: rest) pos) (tOr tA tB') := by
  intro wh pins s σ H Q I h
  refine isTrue_or (thn (ha pins s σ H _ I h) fun c s1 ⟨H1, I1, q1⟩ => ?_)
  cases c with
  | true => exact ⟨H1, I1, q1⟩
  | false => exact hb wh pins s1 σ H1 Q I1 q1
theorem pt_not (ha : PT X a tA) : PT X (.UnaryOp .Not a pos) (tNot tA) := by
  intro pins s σ H Q I h
  exact isTrue_not (ha pins s σ H (fun c H1 => Q (!c) H1) I h)
noncomputable def tAndV (ta tb : TE) : TE := fun σ H Q => ta σ H fun x H1 => ∃ c, x = .bl c ∧ if c = true then tb σ H1 Q else Q (.bl false) H1
theorem pe_one {op} {t : TE} (h : PE X a t) : PE X (.BoolOp op [a] pos) t := fun pins s σ H Q I hw => BoolOp_one (h pins s σ H Q I hw)
theorem pe_and (ha : PE X a ta) (hb : PE X (.BoolOp .And (b :: rest) pos) tb) : PE X (.BoolOp .And (a :: b :: rest) pos) (tAndV ta tb) := by
  intro pins s σ H Q I h
  refine BoolOp_and (thn (ha pins s σ H _ I h) fun v s1 ⟨x, H1, I1, r1, q1⟩ => ?_)
  obtain ⟨c, rfl, q1⟩ := q1
  cases r1
  refine wpAny_truthy_bool ?_
  cases c with
  | true => exact hb pins s1 σ H1 Q I1 q1
  | false => exact ⟨.bl false, H1, I1, rfl, q1⟩
noncomputable def tIf (t : TT) (ta tb : TE) : TE := fun σ H Q => t σ H fun c H1 => if c = true then ta σ H1 Q else tb σ H1 Q
theorem pe_ifExp {c : Expr} (hc : PT X c tA) (ha : PE X a ta) (hb : PE X b tb) : PE X (.IfExp c a b pos) (tIf tA ta tb) := by
  intro pins s σ H Q I h
  refine wpAny_IfExp (thn (hc pins s σ H _ I h) fun d s1 ⟨H1, I1, q1⟩ => ?_)
  cases d with
  | true => exact ha pins s1 σ H1 Q I1 q1
  | false => exact hb pins s1 σ H1 Q I1 q1
end
end L2
namespace L2
open PySem PySem.Spec PyProof.Rows
noncomputable def SqL (K : PySem.W.Frag) (H : Hp) (a : Addr) (xs : List V) : Prop :=
  Rd H a (.lst xs) ∨
    ∃ (o : Obj) (its : Array Value) (n : Nat), K.lookup a = some o ∧ o.cls = .type "list" ∧ o.dict = none ∧ o.data = .seq its n ∧ its.size ≤ sizeLine ∧ Vals xs its.toList
noncomputable def SqT (K : PySem.W.Frag) (H : Hp) (a : Addr) (xs : List V) : Prop :=
  Rd H a (.tup xs) ∨
    ∃ (o : Obj) (its : Array Value) (n : Nat), K.lookup a = some o ∧ o.cls = .type "tuple" ∧ o.data = .seq its n ∧ its.size ≤ sizeLine ∧ Vals xs its.toList
noncomputable def absV : Value → Option V
  | .none => some .non
  | .bool b => some (.bl b)
  | .int i _ => some (.int i)
  | .str x _ => some (.str x)
  | .bytes b _ => some (.byt b)
  | .float b _ => some (.flt b)
  | .ref a => some (.ref a)
  | .type n => some (.ty n)
  | _ => none
theorem RelV.abs {x : V} {u : Value} (r : RelV x u) : absV u = some x := by
  cases x with
  | non => cases r; rfl
  | bl _ => cases r; rfl
  | int _ => obtain ⟨t, rfl⟩ := r; rfl
  | str _ => obtain ⟨t, rfl⟩ := r; rfl
  | byt _ => obtain ⟨t, rfl⟩ := r; rfl
  | flt _ => obtain ⟨t, rfl⟩ := r; rfl
  | ref _ => cases r; rfl
  | ty _ => cases r; rfl
theorem RelV.inj {x y : V} {u : Value} (r : RelV x u) (q : RelV y u) : x = y := Option.some.inj (r.abs.symm.trans q.abs)
theorem Vals.inj : ∀ {xs ys : List V} {us : List Value}, Vals xs us → Vals ys us → xs = ys
  | _, _, _, .nil, .nil => rfl
  | _, _, _, .cons r t, .cons r' t' => by rw [r.inj r', Vals.inj t t']
section
variable {X : Cx} {pins : List (Addr × Obj)} {σ : St} {H : Hp} {s : Shared} {a : Addr} {xs ys : List V}
theorem SqL.of {K : PySem.W.Frag} (h : H a = some (.lst xs)) : SqL K H a xs := .inl (.inl h)
theorem SqT.of {K : PySem.W.Frag} (h : H a = some (.tup xs)) : SqT K H a xs := .inl (.inl h)
theorem Inv.list (I : Inv X pins σ H s) (h : SqL X.K H a xs) : ∃ its : List Value, Vals xs its ∧ PlainL s.heap a its.toArray ∧ xs.length ≤ sizeLine := by
  rcases h with h | ⟨o, its, n, hk, hc, hd, hs, hz, r⟩
  · obtain ⟨z, its, n, r, e⟩ := h.ok I.hok
    exact ⟨its, r, ⟨_, n, e, rfl, rfl, rfl⟩, z⟩
  · refine ⟨its.toList, r, ⟨o, n, I.kIn a o hk, hc, hd, by simpa using hs⟩, ?_⟩
    have e := r.length
    simp only [Array.length_toList] at e
    omega
theorem Inv.tuple (I : Inv X pins σ H s) (h : SqT X.K H a xs) : ∃ its : List Value, Vals xs its ∧ IsTup s.heap a its.toArray ∧ xs.length ≤ sizeLine := by
  rcases h with h | ⟨o, its, n, hk, hc, hs, hz, r⟩
  · obtain ⟨z, its, r, p⟩ := h.ok I.hok
    exact ⟨its, r, p, z⟩
  · refine ⟨its.toList, r, ⟨o, I.kIn a o hk, hc, n, by simpa using hs⟩, ?_⟩
    have e := r.length
    simp only [Array.length_toList] at e
    omega
theorem Inv.list_inj (I : Inv X pins σ H s) (h : SqL X.K H a xs) (h' : SqL X.K H a ys) : xs = ys := by
  obtain ⟨its, r, ⟨o, n, e, _, _, d⟩, _⟩ := I.list h
  obtain ⟨its', r', ⟨o', n', e', _, _, d'⟩, _⟩ := I.list h'
  rw [e] at e'; cases e'
  rw [d] at d'
  injection d' with d1 _
  have : its = its' := by simpa using congrArg Array.toList d1
  subst this
  exact r.inj r'
theorem Inv.tuple_inj (I : Inv X pins σ H s) (h : SqT X.K H a xs) (h' : SqT X.K H a ys) : xs = ys := by
  obtain ⟨its, r, ⟨o, e, _, n, d⟩, _⟩ := I.tuple h
  obtain ⟨its', r', ⟨o', e', _, n', d'⟩, _⟩ := I.tuple h'
  rw [e] at e'; cases e'
  rw [d] at d'
  injection d' with d1 _
  have : its = its' := by simpa using congrArg Array.toList d1
  subst this
  exact r.inj r'
end
noncomputable abbrev Cx.wish (X : Cx) (E : Value → Shared → Prop) : Cx := { X with xe := E }
noncomputable abbrev Cx.nox (X : Cx) : Cx := X.wish fun _ _ => False
theorem Cx.Ok.wish {X : Cx} (ok : X.Ok) (E : Value → Shared → Prop) : (X.wish E).Ok :=
  ⟨ok.mod, ok.kind, ok.glob, ok.blt, ok.above, ok.inj, ok.has, ok.cab, ok.hd, ok.frames, ok.stk, ok.exf, ok.bs, ok.bsz, ok.noex, ok.exfs, ok.funs, ok.frf⟩
theorem Cx.Ok.unwish {X : Cx} {E : Value → Shared → Prop} (ok : (X.wish E).Ok) : X.Ok :=
  ⟨ok.mod, ok.kind, ok.glob, ok.blt, ok.above, ok.inj, ok.has, ok.cab, ok.hd, ok.frames, ok.stk, ok.exf, ok.bs, ok.bsz, ok.noex, ok.exfs, ok.funs, ok.frf⟩
section
variable {X : Cx} {pins : List (Addr × Obj)} {σ : St} {H : Hp} {s : Shared} {E : Value → Shared → Prop}
theorem Inv.wish (I : Inv X pins σ H s) (E : Value → Shared → Prop) : Inv (X.wish E) pins σ H s := ⟨I.ok.wish E, I.os, I.bare, I.base, I.loc, I.cell, I.free, I.freeC, I.pin, I.hok, I.len⟩
theorem Inv.unwish (I : Inv (X.wish E) pins σ H s) : Inv X pins σ H s := ⟨I.ok.unwish, I.os, I.bare, I.base, I.loc, I.cell, I.free, I.freeC, I.pin, I.hok, I.len⟩
theorem SP.unwish {D : Ends} {f : Flow} {s' : Shared} (h : SP (X.wish E) pins D f s') : SP X pins D f s' := by
  cases f with
  | next => obtain ⟨σ', H', I, q⟩ := h; exact ⟨σ', H', I.unwish, q⟩
  | brk => obtain ⟨σ', H', I, q⟩ := h; exact ⟨σ', H', I.unwish, q⟩
  | cont => obtain ⟨σ', H', I, q⟩ := h; exact ⟨σ', H', I.unwish, q⟩
  | ret u => obtain ⟨v, σ', H', I, r, q⟩ := h; exact ⟨v, σ', H', I.unwish, r, q⟩
theorem PE.nox {e : Expr} {t : TE} (h : PE X.nox e t) : PE X e t := fun pins s σ H Q I hw =>
  wpAny_mono (h pins s σ H Q (I.wish _) hw) (fun _ _ ⟨v, H', I', r, q⟩ => ⟨v, H', I'.unwish, r, q⟩) fun _ _ z => False.elim z
theorem PT.nox {e : Expr} {t : TT} (h : PT X.nox e t) : PT X e t := fun pins s σ H Q I hw =>
  wpAny_mono (h pins s σ H Q (I.wish _) hw) (fun _ _ ⟨H', I', q⟩ => ⟨H', I'.unwish, q⟩) fun _ _ z => False.elim z
theorem PSs.nox {st : List Stmt} {t : TS} (h : PSs X.nox st t) : PSs X st t := fun pins s σ H D I hw =>
  wpAny_mono (h pins s σ H D (I.wish _) hw) (fun _ _ q => q.unwish) fun _ _ z => False.elim z
end
section
variable {X : Cx} {st : Stmt} {rest : List Stmt} {t u : TS} {e : Expr} {te : TE} {pos : Pos}
noncomputable def tNext : TS := fun D σ H => D.nx σ H
noncomputable def tSeq (t u : TS) : TS := fun D σ H => t { D with nx := u D } σ H
theorem pss_nil : PSs X [] tNext := fun _ _ σ H _ I h => wpAny_execs_nil ⟨σ, H, I, h⟩
theorem pss_cons (h1 : PS X st t) (h2 : PSs X rest u) : PSs X (st :: rest) (tSeq t u) := by
  intro pins s σ H D I h
  refine wpAny_execs_cons (thn (h1 pins s σ H { D with nx := u D } I h) fun f s1 q => ?_)
  cases f with
  | next =>
    obtain ⟨σ', H', I', q⟩ := q
    exact h2 pins s1 σ' H' D I' q
  | ret v => exact q
  | brk => exact q
  | cont => exact q
theorem pss_one (h1 : PS X st t) : PSs X [st] t := by
  intro pins s σ H D I h
  refine wpAny_execs_cons (thn (h1 pins s σ H D I h) fun f s1 q => ?_)
  cases f with
  | next => exact wpAny_execs_nil q
  | ret v => exact q
  | brk => exact q
  | cont => exact q
theorem Inv.quiet {pins : List (Addr × Obj)} {σ : St} {H : Hp} {s : Shared} (I : Inv X pins σ H s) : interactive X.env = false := by simp [interactive, I.ok.kind]
noncomputable def tDrop (te : TE) : TS := fun D σ H => te σ H fun _ H1 => D.nx σ H1
theorem ps_expr (he : PE X e te) (hs : swapsWith e none pos.line X.env = pure false := by rfl) : PS X (.Expr e pos) (tDrop te) := by
  intro pins s σ H D I h
  exact wpAny_Expr_any (thn (he pins s σ H _ I h) fun v s1 ⟨x, H1, I1, r1, q1⟩ => ⟨σ, H1, I1, q1⟩) I.quiet hs
noncomputable def tRet (te : TE) : TS := fun D σ H => te σ H D.rt
theorem ps_ret (he : PE X e te) : PS X (.Return (some e) pos) (tRet te) := by
  intro pins s σ H D I h
  exact wpAny_Return_some (thn (he pins s σ H _ I h) fun v s1 ⟨x, H1, I1, r1, q1⟩ => ⟨x, σ, H1, I1, r1, q1⟩)
noncomputable def tIfS (c : TT) (t u : TS) : TS := fun D σ H => c σ H fun b H1 => if b = true then t D σ H1 else u D σ H1
theorem ps_if {c : Expr} {a b : List Stmt} {tc : TT} (hc : PT X c tc) (ha : PSs X a t) (hb : PSs X b u) : PS X (.If c a b pos) (tIfS tc t u) := by
  intro pins s σ H D I h
  refine wpAny_If (thn (hc pins s σ H _ I h) fun d s1 ⟨H1, I1, q1⟩ => ?_)
  cases d with
  | true => exact ha pins s1 σ H1 D I1 q1
  | false => exact hb pins s1 σ H1 D I1 q1
noncomputable def tNever : TS := fun _ _ _ => False
theorem ps_never : PS X st tNever := fun _ _ _ _ _ _ h => h.elim
end
noncomputable abbrev TG := V → St → Hp → (St → Hp → Prop) → Prop
noncomputable abbrev TGs := List V → St → Hp → (St → Hp → Prop) → Prop
noncomputable def PG (X : Cx) (target : Expr) (t : TG) : Prop :=
  ∀ (pins : List (Addr × Obj)) (s : Shared) (σ : St) (H : Hp) (v : V) (u : Value) (Q : St → Hp → Prop), Inv X pins σ H s → RelV v u → t v σ H Q →
    wpAny (model X.prog X.w) X.A (assign target X.env u) (fun _ s' => ∃ σ' H', Inv X pins σ' H' s' ∧ Q σ' H') X.xe s
noncomputable def PGs (X : Cx) (ts : List Expr) (t : TGs) : Prop :=
  ∀ (pins : List (Addr × Obj)) (s : Shared) (σ : St) (H : Hp) (vs : List V) (us : List Value) (Q : St → Hp → Prop), Inv X pins σ H s → Vals vs us → t vs σ H Q →
    wpAny (model X.prog X.w) X.A (assignInOrder ((assignEach ts X.env).map (·.2)) us) (fun _ s' => ∃ σ' H', Inv X pins σ' H' s' ∧ Q σ' H') X.xe s
noncomputable abbrev TSet := V → V → V → Hp → (Hp → Prop) → Prop
noncomputable def PSet (X : Cx) (t : TSet) : Prop :=
  ∀ (pins : List (Addr × Obj)) (s : Shared) (σ : St) (H : Hp) (o i v : V) (ov iv u : Value) (Q : Hp → Prop), Inv X pins σ H s → RelV o ov → RelV i iv → RelV v u → t o i v H Q →
    wpAny (model X.prog X.w) X.A (setItem ov iv u) (fun _ s' => ∃ H', Inv X pins σ H' s' ∧ Q H') X.xe s
section
variable {X : Cx} {pos : Pos}
noncomputable def gName (i : Nat) : TG := fun v σ H Q => Q (σ.set i (some v)) H
theorem pg_name {i : Nat} {x : Str} (hN : X.N.Nodup) (hi : X.N[i]? = some x) (hx : Loc X.env.scope x) (hf : X.fn x = true ∨ X.env.scope.names.lookup x = some .local := by first | exact .inl rfl | exact .inr rfl | assumption) : PG X (.Name x pos) (gName i) := by
  intro pins s σ H v u Q I r h
  exact wpAny_assign_Name (store_ok I hN hi hx r (fun s' I' => ⟨_, H, I', h⟩) hf)
noncomputable def gNil : TGs := fun vs σ H Q => vs = [] ∧ Q σ H
noncomputable def gCons (t : TG) (u : TGs) : TGs := fun vs σ H Q => ∃ v r, vs = v :: r ∧ t v σ H fun σ' H' => u r σ' H' Q
theorem pgs_nil : PGs X [] gNil := by
  intro pins s σ H vs us Q I r h
  obtain ⟨e, h⟩ := h
  subst e
  cases r
  exact assignInOrder_nil ⟨σ, H, I, h⟩
theorem pgs_cons {e : Expr} {es : List Expr} {t : TG} {u : TGs} (h1 : PG X e t) (h2 : PGs X es u)
    (hs : (assignEach (e :: es) X.env).map (·.2) = assign e X.env :: (assignEach es X.env).map (·.2) := by rfl) : PGs X (e :: es) (gCons t u) := by
  intro pins s σ H vs us Q I r h
  obtain ⟨v, vr, e1, h⟩ := h
  subst e1
  cases r with
  | cons r rr =>
    rw [hs]
    refine assignInOrder_cons (thn (h1 pins s σ H _ _ _ I r h) fun _ s1 ⟨σ1, H1, I1, q1⟩ => ?_)
    exact h2 pins s1 σ1 H1 _ _ Q I1 rr q1
noncomputable def gTup (K : PySem.W.Frag) (n : Nat) (t : TGs) : TG := fun v σ H Q => ∃ a xs, v = .ref a ∧ SqT K H a xs ∧ xs.length = n ∧ t xs σ H Q
theorem pg_tup {es : List Expr} {k : Nat} {t : TGs} {n : Nat} (hc : X.calm = true) (h : PGs X es t)
    (hn : (assignEach es X.env).length = n := by rfl) (hst : (assignEach es X.env).findIdx? (·.1) = none := by rfl) : PG X (.Tuple es k pos) (gTup X.K n t) := by
  intro pins s σ H v u Q I r hw
  obtain ⟨a, xs, e1, hq, hl, hw⟩ := hw
  subst e1
  cases r
  obtain ⟨its, rv, ht, hz⟩ := I.tuple hq
  refine assign_Tuple_tuple (I.ok.hd hc) ht (by simp [hn, ← hl, rv.length]) hst fun h' hx => ?_
  have I1 : Inv X pins σ H { s with heap := h' } := I.kept (t' := s.toks) fun b o e => hx b o (Nat.ne_of_lt (Heap.lt_size e)) e
  exact h pins _ σ H xs _ Q I1 (by simpa using rv) hw
noncomputable def gSub (to ti : TE) (t : TSet) : TG := fun v σ H Q => to σ H fun o H1 => ti σ H1 fun i H2 => t o i v H2 fun H3 => Q σ H3
theorem pg_sub {o i : Expr} {to ti : TE} {t : TSet} (ho : PE X o to) (hi : PE X i ti) (hs : PSet X t)
    (ha : ∀ v, assign (.Subscript o i pos) X.env v = (do
      let ov ← holding [v] (eval o X.env)
      let iv ← holding [v, ov] (eval i X.env)
      standAt pos
      holding [v, ov, iv] (setItem ov iv v)
      release [v, ov, iv] []) := by intro _; rfl) : PG X (.Subscript o i pos) (gSub to ti t) := by
  intro pins s σ H v u Q I r h
  rw [ha]
  refine wpAny_bind (wpAny_holding (thn (ho pins s σ H _ I h) fun ov s1 ⟨x, H1, I1, r1, q1⟩ => ?_))
  refine wpAny_bind (wpAny_holding (thn (hi pins s1 σ H1 _ I1 q1) fun iv s2 ⟨y, H2, I2, r2, q2⟩ => ?_))
  refine wpAny_bind (wpAny_standAt (wpAny_bind (wpAny_holding (thn (hs pins s2 σ H2 x y v ov iv u _ I2 r1 r2 r q2) fun _ s3 ⟨H3, I3, q3⟩ => ?_))))
  exact wpAny_release ⟨σ, H3, I3, q3⟩
noncomputable def tAsg (te : TE) (g : TG) : TS := fun D σ H => te σ H fun x H1 => g x σ H1 D.nx
theorem ps_asg {tg e : Expr} {te : TE} {g : TG} (he : PE X e te) (hg : PG X tg g) (hs : swapsWithSole [tg] e pos.line X.env = pure false := by rfl) (hw : swappedStores [tg] e X.env = pure none := by rfl)
    (h1 : (assignEach [tg] X.env).map (·.2) = [assign tg X.env] := by rfl) : PS X (.Assign [tg] e pos) (tAsg te g) := by
  intro pins s σ H D I h
  refine wpAny_Assign_stores (thn (he pins s σ H _ I h) fun v s1 ⟨x, H1, I1, r1, q1⟩ => ?_) hs hw
  rw [h1]
  exact thn (hg pins s1 σ H1 x v _ I1 r1 q1) fun _ s2 q => q
theorem ps_set {i : Nat} {x : Str} {e : Expr} {te : TE} {pos' : Pos} (hN : X.N.Nodup) (hi : X.N[i]? = some x) (hx : Loc X.env.scope x) (he : PE X e te) (hs : swapsWith e (some (.Name x pos')) pos.line X.env = pure false := by rfl) (hf : X.fn x = true ∨ X.env.scope.names.lookup x = some .local := by first | exact .inl rfl | exact .inr rfl | assumption) :
    PS X (.Assign [.Name x pos'] e pos) (tAsg te (gName i)) := by
  intro pins s σ H D I h
  refine wpAny_Assign_Name (thn (he pins s σ H _ I h) fun v s1 ⟨y, H1, I1, r1, q1⟩ => ?_) hs
  exact store_ok I1 hN hi hx r1 (fun s2 I2 => ⟨_, H1, I2, q1⟩) hf
end
section
variable {X : Cx} {pos : Pos}
noncomputable def tWhile (c : TT) (tb : TS) : TS := fun D σ H => ∃ W : Nat → St → Hp → Prop, (∃ m, W m σ H) ∧ ∀ m σ H, W m σ H →
  c σ H fun b H1 => if b = true then ∃ N : St → Hp → Prop, (∀ σ' H', N σ' H' → ∃ m', m' < m ∧ W m' σ' H') ∧ tb { D with nx := N, ct := N, bk := D.nx } σ H1 else D.nx σ H1
theorem ps_while {c : Expr} {body : List Stmt} {tc : TT} {tb : TS} (hp : PassesOwn (model X.prog X.w) X.A X.env X.xe) (hc : PT X c tc) (hb : PSs X body tb) : PS X (.While c body [] pos) (tWhile tc tb) := by
  intro pins s σ H D I h
  obtain ⟨W, ⟨m0, w0⟩, turn⟩ := h
  refine wpAny_While (codeAny_whileLoop (fun n s' => ∃ σ' H', Inv X pins σ' H' s' ∧ W n σ' H') ?_ m0 ⟨σ, H, I, w0⟩)
  rintro n s1 ⟨σ1, H1, I1, w1⟩
  refine wpAny_passesOwn hp (thn (hc pins s1 σ1 H1 _ I1 (turn n σ1 H1 w1)) fun b s2 ⟨H2, I2, q2⟩ => ?_)
  cases b with
  | true =>
    obtain ⟨N, hN, q2⟩ := q2
    rw [if_pos rfl]
    refine wpAny_passesOwn hp (thn (hb pins s2 σ1 H2 _ I2 q2) fun f s3 q3 => ?_)
    cases f with
    | next =>
      obtain ⟨σ3, H3, I3, n3⟩ := q3
      obtain ⟨m', hm, w3⟩ := hN σ3 H3 n3
      exact ⟨m', hm, σ3, H3, I3, w3⟩
    | cont =>
      obtain ⟨σ3, H3, I3, n3⟩ := q3
      obtain ⟨m', hm, w3⟩ := hN σ3 H3 n3
      exact ⟨m', hm, σ3, H3, I3, w3⟩
    | brk => exact q3
    | ret v => exact q3
  | false =>
    rw [if_neg Bool.false_ne_true]
    exact wpAny_execs_nil ⟨σ1, H2, I2, q2⟩
end
structure It where
  go : Nat → Hp → Prop
  yld : Nat → Hp → V → Hp → Prop
  stop : Nat → Hp → Prop
noncomputable def FpOk (X : Cx) (pins : List (Addr × Obj)) (H : Hp) (b : Addr) : Prop :=
  H b = none ∧ b ≠ X.env.locals ∧ b ∉ X.fs ∧ (b ∈ X.ex ∨ X.s₀.heap.objs.size ≤ b) ∧ (∀ x c, X.env.cells.lookup x = some c → c ≠ b) ∧ ∀ p ∈ X.pn ++ pins, p.1 ≠ b
theorem Inv.fpOk {X : Cx} {pins : List (Addr × Obj)} {σ : St} {H H' : Hp} {s : Shared} {b : Addr} (I : Inv X pins σ H s) (hb : s.heap.objs.size ≤ b) (hn : H' b = none) : FpOk X pins H' b := by
  refine ⟨hn, Nat.ne_of_gt (Nat.lt_of_lt_of_le I.lt hb), I.nofs hb, .inr (Nat.le_trans I.sz hb), fun x c e z => ?_, fun p hp z => ?_⟩
  · obtain ⟨v, q⟩ := I.cell x c e
    exact absurd (Nat.lt_of_lt_of_le q.lt (by rw [z]; exact hb)) (Nat.lt_irrefl _)
  · exact absurd (Nat.lt_of_lt_of_le (Heap.lt_size (I.pin p hp).1) (by rw [z]; exact hb)) (Nat.lt_irrefl _)
structure Turn (P : Program) (w : World) (K : PySem.W.Frag) (tg : Expr) (J : It) (fp : List Addr) (it : Addr) (tn : Nat → Heap → Prop) : Prop where
  mem : it ∈ fp
  obj : ∀ i h, tn i h → ∀ b ∈ fp, ∃ o, h.get? b = some o ∧ ∀ v, o.data ≠ .cell v
  keep : ∀ i h h', tn i h → (∀ b ∈ fp, ∀ o, h.get? b = some o → h'.get? b = some o) → tn i h'
  item : ∀ (X : Cx), X.prog = P → X.w = w → X.K = K → X.calm = true → ∀ (i : Nat) (pins : List (Addr × Obj)) (s : Shared) (σ : St) (H : Hp) (E : Value → Shared → Prop), Inv X pins σ H s → (∀ b ∈ fp, FpOk X pins H b) → tn i s.heap → J.go i H →
    wpAny (model P w) X.A (pyNext (.ref it)) (fun r s1 => ∃ u, r = some u ∧
      wpAny (model P w) X.A (letOwnedTupleGo tg (.ref it) u) (fun _ s2 => ∃ x H', Inv X pins σ H' s2 ∧ RelV x u ∧ J.yld i H x H' ∧ tn (i + 1) s2.heap ∧ ∀ b ∈ fp, H' b = none) E s1) E s
  done : ∀ (X : Cx), X.prog = P → X.w = w → X.K = K → X.calm = true → ∀ (i : Nat) (pins : List (Addr × Obj)) (s : Shared) (σ : St) (H : Hp) (E : Value → Shared → Prop), Inv X pins σ H s → (∀ b ∈ fp, FpOk X pins H b) → tn i s.heap → J.stop i H →
    wpAny (model P w) X.A (pyNext (.ref it)) (fun r s1 => r = none ∧ Inv X pins σ H s1) E s
  self : ∀ (A : Around) (i : Nat) (s : Shared) (Q : Value → Shared → Prop) (E : Value → Shared → Prop), tn i s.heap → Q (.ref it) s → wpAny (model P w) A (pyIter (.ref it)) Q E s
noncomputable abbrev TI := St → Hp → (It → Hp → Prop) → Prop
noncomputable def PIE (X : Cx) (pins : List (Addr × Obj)) (σ : St) (tg : Expr) (R : It → Hp → Prop) (itv : Value) (s2 : Shared) : Prop :=
  ∃ (it : Addr) (fp : List Addr) (tn : Nat → Heap → Prop) (J : It) (H' : Hp), itv = .ref it ∧ Inv X pins σ H' s2 ∧ Turn X.prog X.w X.K tg J fp it tn ∧ tn 0 s2.heap ∧ (∀ b ∈ fp, FpOk X pins H' b) ∧ R J H'
noncomputable def PI (X : Cx) (tg iter : Expr) (wi : TI) : Prop :=
  ∀ (pins : List (Addr × Obj)) (s : Shared) (σ : St) (H : Hp) (R : It → Hp → Prop), Inv X pins σ H s → wi σ H R →
    wpAny (model X.prog X.w) X.A (eval iter X.env) (fun v s1 => wpAny (model X.prog X.w) X.A (pyIter v) (PIE X pins σ tg R) X.xe s1) X.xe s
theorem go_of {M : Model} {A : Around} {E : Value → Shared → Prop} {s : Shared} {tg : Expr} {it : Addr} {u : Value} {o : Obj} {n : String} {vs : Array Value} {Q : Unit → Shared → Prop} (ho : s.heap.get? it = some o) (hc : o.cls = .type n) (hd : o.data = .fields vs)
    (hn : ["enumerate", "zip", "dict_itemiterator", "dict_reverseitemiterator", "odict_iterator", "itertools.zip_longest", "itertools.pairwise"].contains n = false) (hQ : Q () s) : wpAny M A (letOwnedTupleGo tg (.ref it) u) Q E s := by
  unfold letOwnedTupleGo
  cases tg <;> first
    | exact wpAny_pure hQ
    | (cases u <;> first
        | exact wpAny_pure hQ
        | (refine wpAny_bind (wpAny_load ho ?_)
           rw [hc, hd]
           show wpAny M A (if (["enumerate", "zip", "dict_itemiterator", "dict_reverseitemiterator", "odict_iterator", "itertools.zip_longest", "itertools.pairwise"].contains n && vs[0]? == some (rawInt _)) = true then _ else _) Q E s
           rw [if_neg (by intro h; rw [hn, Bool.false_and] at h; cases h)]
           exact wpAny_pure hQ))
noncomputable def Itl (K : PySem.W.Frag) (a : Addr) : It :=
  ⟨fun i H => ∃ xs x, SqL K H a xs ∧ xs[i]? = some x, fun i H x H' => H' = H ∧ ∀ xs, SqL K H a xs → xs[i]? = some x, fun i H => ∃ xs, SqL K H a xs ∧ xs.length ≤ i⟩
noncomputable def Itt (K : PySem.W.Frag) (a : Addr) : It :=
  ⟨fun i H => ∃ xs x, SqT K H a xs ∧ xs[i]? = some x, fun i H x H' => H' = H ∧ ∀ xs, SqT K H a xs → xs[i]? = some x, fun i H => ∃ xs, SqT K H a xs ∧ xs.length ≤ i⟩
noncomputable def Itr (lo : Int) (n : Nat) : It := ⟨fun i _ => i < n, fun i H x H' => H' = H ∧ x = .int (lo + i), fun i _ => n ≤ i⟩
theorem turn_list {P : Program} {w : World} {K : PySem.W.Frag} {tg : Expr} (a it : Addr) : Turn P w K tg (Itl K a) [it] it (fun i h => h.IsListIter it a i) where
  mem := by simp
  obj := fun i h st b hb => by
    have e : b = it := by simpa using hb
    subst e
    obtain ⟨o, e, c, d⟩ := st
    exact ⟨o, e, fun v z => by rw [d] at z; cases z⟩
  keep := fun i h h' st k => st.at fun o e => k it (by simp) o e
  item := by
    intro X hP hw hK hc i pins s σ H E I hf st hg
    subst hP hw hK
    obtain ⟨xs, x, hq, hx⟩ := hg
    obtain ⟨its, rv, p, hz⟩ := I.list hq
    obtain ⟨u, hu, ru⟩ := rv.get hx
    obtain ⟨f0, f1, f2, f3, f4, f5⟩ := hf it (by simp)
    refine wpAny_pyNext_list_item st p.isList (x := u) (by simpa using hu) fun h' st' sb => ?_
    have I1 : Inv X pins σ H { s with heap := h' } := I.turned (t' := s.toks) (fun b o hb e => (sb.2 b hb).trans e) f0 f1 f3 f4 f5
    obtain ⟨o, e, c, d⟩ := id st'
    exact ⟨u, rfl, go_of (s := { s with heap := h' }) e c d (by decide) ⟨x, H, I1, ru, ⟨rfl, fun ys hy => by rw [I.list_inj hy hq]; exact hx⟩, st', fun b hb => (hf b hb).1⟩⟩
  done := by
    intro X hP hw hK hc i pins s σ H E I hf st hg
    subst hP hw hK
    obtain ⟨xs, hq, hx⟩ := hg
    obtain ⟨its, rv, p, hz⟩ := I.list hq
    obtain ⟨f0, f1, f2, f3, f4, f5⟩ := hf it (by simp)
    have hl := rv.length
    exact wpAny_pyNext_list_end (I.ok.hd hc) st p.isList (by simp; omega) fun h' eb => ⟨rfl, I.turned (t' := s.toks) (fun b o hb e => eb b o hb e) f0 f1 f3 f4 f5⟩
  self := fun _ _ _ _ _ st h => wpAny_pyIter_listiter st h
theorem turn_tuple {P : Program} {w : World} {K : PySem.W.Frag} {tg : Expr} (a it : Addr) : Turn P w K tg (Itt K a) [it] it (fun i h => h.IsTupleIter it a i) where
  mem := by simp
  obj := fun i h st b hb => by
    have e : b = it := by simpa using hb
    subst e
    obtain ⟨o, e, c, d⟩ := st
    exact ⟨o, e, fun v z => by rw [d] at z; cases z⟩
  keep := fun i h h' st k => st.at fun o e => k it (by simp) o e
  item := by
    intro X hP hw hK hc i pins s σ H E I hf st hg
    subst hP hw hK
    obtain ⟨xs, x, hq, hx⟩ := hg
    obtain ⟨its, rv, p, hz⟩ := I.tuple hq
    obtain ⟨u, hu, ru⟩ := rv.get hx
    obtain ⟨f0, f1, f2, f3, f4, f5⟩ := hf it (by simp)
    refine wpAny_pyNext_tuple_item st (show s.heap.IsTuple a its.toArray from p) (x := u) (by simpa using hu) fun h' st' sb => ?_
    have I1 : Inv X pins σ H { s with heap := h' } := I.turned (t' := s.toks) (fun b o hb e => (sb.2 b hb).trans e) f0 f1 f3 f4 f5
    obtain ⟨o, e, c, d⟩ := id st'
    exact ⟨u, rfl, go_of (s := { s with heap := h' }) e c d (by decide) ⟨x, H, I1, ru, ⟨rfl, fun ys hy => by rw [I.tuple_inj hy hq]; exact hx⟩, st', fun b hb => (hf b hb).1⟩⟩
  done := by
    intro X hP hw hK hc i pins s σ H E I hf st hg
    subst hP hw hK
    obtain ⟨xs, hq, hx⟩ := hg
    obtain ⟨its, rv, p, hz⟩ := I.tuple hq
    obtain ⟨f0, f1, f2, f3, f4, f5⟩ := hf it (by simp)
    have hl := rv.length
    exact wpAny_pyNext_tuple_end (I.ok.hd hc) st (show s.heap.IsTuple a its.toArray from p) (by simp; omega) fun h' eb => ⟨rfl, I.turned (t' := s.toks) (fun b o hb e => eb b o hb e) f0 f1 f3 f4 f5⟩
  self := fun _ _ _ _ _ st h => wpAny_pyIter_tupleiter st h
theorem turn_range {P : Program} {w : World} {K : PySem.W.Frag} {tg : Expr} (it : Addr) (lo : Int) (n : Nat) : Turn P w K tg (Itr lo n) [it] it (fun i h => IsRangeIter h it (lo + (i : Nat) * 1) ((n : Int) - (i : Nat)) 1) where
  mem := by simp
  obj := fun i h st b hb => by
    have e : b = it := by simpa using hb
    subst e
    exact ⟨_, st, fun v z => by
      have z' : Data.fields _ = Data.cell v := z
      cases z'⟩
  keep := fun i h h' st k => k it (by simp) _ st
  item := by
    intro X hP hw hK hc i pins s σ H E I hf st hg
    subst hP hw hK
    obtain ⟨f0, f1, f2, f3, f4, f5⟩ := hf it (by simp)
    have W := Walks.range (prog := X.prog) (w := X.w) (I.ok.hd hc) it lo 1 n
    refine W.item i s _ _ hg st fun v h' tk hv st' kk => ?_
    obtain ⟨t, rfl⟩ := hv
    have I1 : Inv X pins σ H { s with heap := h', toks := tk } := I.turned (fun b o hb e => kk b o (by simpa using hb) e) f0 f1 f3 f4 f5
    refine ⟨_, rfl, go_of (s := { s with heap := h', toks := tk }) (n := "range_iterator") st' rfl rfl (by decide) ⟨.int (lo + i), H, I1, ⟨t, ?_⟩, ⟨rfl, rfl⟩, st', fun b hb => (hf b hb).1⟩⟩
    rw [Int.mul_one]
  done := by
    intro X hP hw hK hc i pins s σ H E I hf st hg
    subst hP hw hK
    obtain ⟨f0, f1, f2, f3, f4, f5⟩ := hf it (by simp)
    exact wpAny_pyNext_range_end (I.ok.hd hc) st (by have : n ≤ i := hg; omega) fun h' eb => ⟨rfl, I.turned (t' := s.toks) (fun b o hb e => eb b o hb e) f0 f1 f3 f4 f5⟩
  self := fun _ _ _ _ _ st h => wpAny_pyIter_rangeiter st h
end L2
namespace L2
open PySem PySem.Spec PyProof.Rows
section
variable {X : Cx} {tg : Expr}
theorem range_it {pins : List (Addr × Obj)} {σ : St} {H : Hp} {s : Shared} {R : It → Hp → Prop} {E : Value → Shared → Prop} {lo hi : Int} {t u v : Tok} {tk : Nat} (I : Inv X pins σ H s) (h1 : -(2 ^ 62) ≤ lo) (h2 : lo < 2 ^ 62) (h3 : -(2 ^ 62) ≤ hi) (h4 : hi < 2 ^ 62)
    (q : R (Itr lo (hi - lo).toNat) H) : wpAny (model X.prog X.w) X.A (pyIter (.ref s.heap.objs.size)) (PIE X pins σ tg R) E { s with heap := s.heap.push { cls := .type "range", data := .fields #[.int lo t, .int hi u, .int 1 v] }, toks := tk } := by
  refine wpAny_pyIter_range (IsRange.new ..) (small_one h1 h2 h3 h4) ?_
  have I1 : Inv X pins σ H { s with heap := s.heap.push { cls := .type "range", data := .fields #[.int lo t, .int hi u, .int 1 v] }, toks := tk } := I.kept fun b o e => Heap.get?_push_of_some _ e
  refine ⟨(s.heap.push { cls := .type "range", data := .fields #[.int lo t, .int hi u, .int 1 v] }).objs.size, [(s.heap.push { cls := .type "range", data := .fields #[.int lo t, .int hi u, .int 1 v] }).objs.size], _, _, H, rfl,
    I1.kept (t' := tk) fun b o e => Heap.get?_push_of_some _ e, turn_range _ lo (hi - lo).toNat, ?_, fun b hb => ?_, q⟩
  · have e1 : lo + ((0 : Nat) : Int) * 1 = lo := by simp
    have e2 : (((hi - lo).toNat : Nat) : Int) - ((0 : Nat) : Int) = Builtin.Range.rangeSize lo hi 1 := by rw [rangeSize_one]; split <;> omega
    show IsRangeIter _ _ (lo + ((0 : Nat) : Int) * 1) ((((hi - lo).toNat : Nat) : Int) - ((0 : Nat) : Int)) 1
    rw [e1, e2]
    exact Heap.get?_push_size _ rfl
  · have e : b = (s.heap.push { cls := .type "range", data := .fields #[.int lo t, .int hi u, .int 1 v] }).objs.size := by simpa using hb
    subst e
    exact I1.fpOk (Nat.le_refl _) (I1.hok.fresh (Nat.le_refl _))
noncomputable def iRng1 (ta : TA) : TI := fun σ H R => ta σ H fun vs H1 => ∃ j : Int, vs = [.int j] ∧ -(2 ^ 62) ≤ j ∧ j < 2 ^ 62 ∧ R (Itr 0 j.toNat) H1
theorem pi_range1 {a : Expr} {ta : TA} {p pos : Pos} (hg : Gl X "range") (hm : X.mg "range" = none) (ha : PA X [a] ta) (hs : starEach [a] X.env = [(false, eval a X.env)] := by rfl) : PI X tg (.Call (.Name "range" p) [a] [] pos) (iRng1 ta) := by
  intro pins s σ H R I h
  refine Call_ (ld_blt I hg hm boot_range (PyProof.Rows.callWith_type1 (thn (ha pos pins s σ H _ I h) fun us s1 ⟨vs, H1, I1, r1, q1⟩ => ?_) hs rfl))
  obtain ⟨j, e, q1, q2, q⟩ := q1
  subst e
  cases r1 with
  | cons r rr =>
    cases rr
    obtain ⟨t, rfl⟩ := r
    exact call_range_1 (range_it I1 (by omega) (by omega) q1 q2 (by simpa using q))
noncomputable def tFor (wi : TI) (g : TG) (tb : TS) : TS := fun D σ H => wi σ H fun J H1 => ∃ W : Nat → Nat → St → Hp → Prop, (∃ m, W 0 m σ H1) ∧ ∀ i m σ H, W i m σ H →
  (J.stop i H ∧ D.nx σ H) ∨ (J.go i H ∧ ∃ N : St → Hp → Prop, (∀ σ' H', N σ' H' → ∃ m', m' < m ∧ W (i + 1) m' σ' H') ∧ ∀ x H', J.yld i H x H' → g x σ H' fun σ2 H2 => tb { D with nx := N, ct := N, bk := D.nx } σ2 H2)
noncomputable def pinsAt (fp : List Addr) (h : Heap) : List (Addr × Obj) := fp.filterMap fun b => (h.get? b).map fun o => (b, o)
theorem mem_pinsAt {fp : List Addr} {h : Heap} {b : Addr} {o : Obj} (hb : b ∈ fp) (e : h.get? b = some o) : (b, o) ∈ pinsAt fp h := List.mem_filterMap.mpr ⟨b, hb, by rw [e]; rfl⟩
theorem of_pinsAt {fp : List Addr} {h : Heap} {p : Addr × Obj} (hp : p ∈ pinsAt fp h) : p.1 ∈ fp ∧ h.get? p.1 = some p.2 := by
  obtain ⟨b, hb, e⟩ := List.mem_filterMap.mp hp
  cases q : h.get? b with
  | none => rw [q] at e; cases e
  | some o =>
    rw [q] at e
    have e' : (b, o) = p := Option.some.inj e
    subst e'
    exact ⟨hb, q⟩
theorem Inv.pinned {pins : List (Addr × Obj)} {σ : St} {H : Hp} {s : Shared} {fp : List Addr} (I : Inv X pins σ H s) (hf : ∀ b ∈ fp, FpOk X pins H b) (ho : ∀ b ∈ fp, ∃ o, s.heap.get? b = some o ∧ ∀ v, o.data ≠ .cell v) : Inv X (pins ++ pinsAt fp s.heap) σ H s :=
  I.pins_of fun p hp => (List.mem_append.mp hp).elim (fun z => I.pin p (List.mem_append_right _ z)) fun z => by
    obtain ⟨hb, e⟩ := of_pinsAt z
    obtain ⟨f0, f1, f2, _⟩ := hf p.1 hb
    obtain ⟨o, e', d⟩ := ho p.1 hb
    rw [e] at e'; cases e'
    exact ⟨e, f0, f1, f2, d⟩
theorem Inv.unpinned {pins pl : List (Addr × Obj)} {σ : St} {H : Hp} {s : Shared} (I : Inv X (pins ++ pl) σ H s) : Inv X pins σ H s := I.pins_of fun p hp => I.pin p (List.mem_append_right _ (List.mem_append_left _ hp))
theorem ps_for {iter : Expr} {body : List Stmt} {wi : TI} {g : TG} {tb : TS} {pos : Pos} (hp : PassesOwn (model X.prog X.w) X.A X.env X.xe) (hc : X.calm = true) (hi : PI X tg iter wi) (hg : PG X tg g) (hb : PSs X body tb)
    (hs : ∀ x, foldedSetIterable iter X.env x = pure x := by intro _; rfl) : PS X (.For tg iter body [] pos) (tFor wi g tb) := by
  intro pins s σ H D I h
  refine wpAny_For (thn (hi pins s σ H _ I h) fun v s1 h1 => thn h1 fun itv s2 h2 => ?_) hs
  obtain ⟨it, fp, tn, J, H2, e, I2, T, st2, f2, W, ⟨m0, w0⟩, turn⟩ := h2
  subst e
  -- what stays true of the iterator's objects through the loop
  have stat : ∀ {H' : Hp}, (∀ b ∈ fp, H' b = none) → ∀ b ∈ fp, FpOk X pins H' b := fun hn b hb => ⟨hn b hb, (f2 b hb).2⟩
  refine codeAny_forLoop_any (fun n s' => ∃ i σ' H', Inv X pins σ' H' s' ∧ tn i s'.heap ∧ (∀ b ∈ fp, H' b = none) ∧ W i n σ' H') ?_ m0 ⟨0, σ, H2, I2, st2, fun b hb => (f2 b hb).1, w0⟩
  rintro n s3 ⟨i, σ3, H3, I3, st3, fr3, w3⟩
  rcases turn i n σ3 H3 w3 with ⟨stop, qn⟩ | ⟨go, N, hN, step⟩
  · refine wpAny_passesOwn hp (thn (T.done X rfl rfl rfl hc i pins s3 σ3 H3 X.xe I3 (stat fr3) st3 stop) fun r s4 ⟨hr, I4⟩ => ?_)
    subst hr
    exact wpAny_execs_nil ⟨σ3, H3, I4, qn⟩
  · refine wpAny_passesOwn hp (thn (T.item X rfl rfl rfl hc i pins s3 σ3 H3 X.xe I3 (stat fr3) st3 go) fun r s4 ⟨u, hr, h4⟩ => ?_)
    subst hr
    refine wpAny_passesOwn hp (thn h4 fun _ s5 ⟨x, H5, I5, r5, y5, st5, fr5⟩ => ?_)
    have I5' := I5.pinned (stat fr5) (T.obj _ _ st5)
    refine wpAny_passesOwn hp (thn (hg _ s5 σ3 H5 x u _ I5' r5 (step x H5 y5)) fun _ s6 ⟨σ6, H6, I6, q6⟩ => ?_)
    refine wpAny_passesOwn hp (thn (hb _ s6 σ6 H6 _ I6 q6) fun f s7 q7 => ?_)
    have again : ∀ {σ7 : St} {H7 : Hp}, Inv X (pins ++ pinsAt fp s5.heap) σ7 H7 s7 → N σ7 H7 → ∃ m, m < n ∧ ∃ i σ' H', Inv X pins σ' H' s7 ∧ tn i s7.heap ∧ (∀ b ∈ fp, H' b = none) ∧ W i m σ' H' := fun {σ7 H7} I7 n7 => by
      obtain ⟨m', hm, w7⟩ := hN σ7 H7 n7
      refine ⟨m', hm, i + 1, σ7, H7, I7.unpinned, T.keep _ _ _ st5 fun b hb o e => (I7.pin (b, o) (List.mem_append_right _ (List.mem_append_right _ (mem_pinsAt hb e)))).1, fun b hb => ?_, w7⟩
      obtain ⟨o, e, d⟩ := T.obj _ _ st5 b hb
      exact (I7.pin (b, o) (List.mem_append_right _ (List.mem_append_right _ (mem_pinsAt hb e)))).2.1
    cases f with
    | next => obtain ⟨σ7, H7, I7, n7⟩ := q7; exact again I7 n7
    | cont => obtain ⟨σ7, H7, I7, n7⟩ := q7; exact again I7 n7
    | brk => obtain ⟨σ7, H7, I7, q7⟩ := q7; exact ⟨σ7, H7, I7.unpinned, q7⟩
    | ret v => obtain ⟨x7, σ7, H7, I7, r7, q7⟩ := q7; exact ⟨x7, σ7, H7, I7.unpinned, r7, q7⟩
end
theorem for_range {lo : Int} {n : Nat} {g : TG} {tb : TS} {D : Ends} {σ : St} {H : Hp} (Pv : Nat → St → Hp → Prop) (h0 : Pv 0 σ H)
    (hs : ∀ i σ H, i < n → Pv i σ H → g (.int (lo + i)) σ H fun σ2 H2 => tb { D with nx := Pv (i + 1), ct := Pv (i + 1), bk := D.nx } σ2 H2) (hd : ∀ σ H, Pv n σ H → D.nx σ H) :
    ∃ W : Nat → Nat → St → Hp → Prop, (∃ m, W 0 m σ H) ∧ ∀ i m σ H, W i m σ H →
      ((Itr lo n).stop i H ∧ D.nx σ H) ∨ ((Itr lo n).go i H ∧ ∃ N : St → Hp → Prop, (∀ σ' H', N σ' H' → ∃ m', m' < m ∧ W (i + 1) m' σ' H') ∧ ∀ x H', (Itr lo n).yld i H x H' → g x σ H' fun σ2 H2 => tb { D with nx := N, ct := N, bk := D.nx } σ2 H2) := by
  refine ⟨fun i m σ H => m = n - i ∧ i ≤ n ∧ Pv i σ H, ⟨n, by simp, Nat.zero_le _, h0⟩, ?_⟩
  rintro i m σ H ⟨rfl, hi, p⟩
  by_cases hlt : i < n
  · refine .inr ⟨hlt, Pv (i + 1), fun σ' H' p' => ⟨n - (i + 1), by omega, rfl, hlt, p'⟩, fun x H' y => ?_⟩
    obtain ⟨e, y⟩ := y
    subst e y
    exact hs i σ _ hlt p
  · have e : i = n := by omega
    subst e
    exact .inl ⟨Nat.le_refl _, hd σ H p⟩
end L2
namespace L2
open PySem PySem.Spec PyProof.Rows
noncomputable abbrev R2 := V → V → Hp → VK → Prop
noncomputable def OpR (X : Cx) (f : Value → Value → Sem Value) (r : R2) : Prop :=
  ∀ (pins : List (Addr × Obj)) (s : Shared) (σ : St) (H : Hp) (x y : V) (v u : Value) (Q : VK), Inv X pins σ H s → RelV x v → RelV y u → r x y H Q →
    wpAny (model X.prog X.w) X.A (f v u) (EP X pins σ Q) X.xe s
noncomputable def UnR (X : Cx) (f : Value → Sem Value) (r : V → Hp → VK → Prop) : Prop :=
  ∀ (pins : List (Addr × Obj)) (s : Shared) (σ : St) (H : Hp) (x : V) (v : Value) (Q : VK), Inv X pins σ H s → RelV x v → r x H Q →
    wpAny (model X.prog X.w) X.A (f v) (EP X pins σ Q) X.xe s
noncomputable def CallR (X : Cx) (f : Value) (r : List V → Hp → VK → Prop) : Prop :=
  ∀ (pins : List (Addr × Obj)) (s : Shared) (σ : St) (H : Hp) (xs : List V) (us : List Value) (Q : VK), Inv X pins σ H s → Vals xs us → r xs H Q →
    wpAny (model X.prog X.w) X.A (call f us) (EP X pins σ Q) X.xe s
noncomputable def tOp (r : R2) (ta tb : TE) : TE := fun σ H Q => ta σ H fun x H1 => tb σ H1 fun y H2 => r x y H2 Q
noncomputable def tUn (r : V → Hp → VK → Prop) (ta : TE) : TE := fun σ H Q => ta σ H fun x H1 => r x H1 Q
noncomputable def rI (C : Int → Int → Prop) (g : Int → Int → V) : R2 := fun x y H Q => ∃ i j, x = .int i ∧ y = .int j ∧ C i j ∧ Q (g i j) H
noncomputable def rI0 (g : Int → Int → V) : R2 := fun x y H Q => ∃ i j, x = .int i ∧ y = .int j ∧ Q (g i j) H
noncomputable def rU (g : Int → V) : V → Hp → VK → Prop := fun x H Q => ∃ i, x = .int i ∧ Q (g i) H
section
variable {X : Cx} {a b c : Expr} {ta tb tc : TE} {pos : Pos}
theorem binT (ha : PE X a ta) (hb : PE X b tb) {pins : List (Addr × Obj)} {s : Shared} {σ : St} {H : Hp} {R : V → V → Hp → Prop} (I : Inv X pins σ H s)
    (h : ta σ H fun x H1 => tb σ H1 fun y H2 => R x y H2) {Q : Value → Shared → Prop} {f : Value → Value → Sem Value}
    (hf : ∀ v u s2 x y H2, Inv X pins σ H2 s2 → RelV x v → RelV y u → R x y H2 → wpAny (model X.prog X.w) X.A (f v u) Q X.xe s2) :
    wpAny (model X.prog X.w) X.A (eval a X.env) (fun v s₁ => wpAny (model X.prog X.w) X.A (eval b X.env) (fun u s₂ => wpAny (model X.prog X.w) X.A (f v u) Q X.xe s₂) X.xe s₁) X.xe s := by
  refine thn (ha pins s σ H _ I h) fun v s1 ⟨x, H1, I1, r1, q1⟩ => ?_
  refine thn (hb pins s1 σ H1 _ I1 q1) fun u s2 ⟨y, H2, I2, r2, q2⟩ => ?_
  exact hf v u s2 x y H2 I2 r1 r2 q2
theorem pe_op {op : Operator} {r : R2} (ho : OpR X (binaryOp op) r) (ha : PE X a ta) (hb : PE X b tb) : PE X (.BinOp a op b pos) (tOp r ta tb) := by
  intro pins s σ H Q I h
  exact wpAny_BinOp (binT ha hb I h fun v u s2 x y H2 I2 rx ry q => ho pins s2 σ H2 x y v u Q I2 rx ry q)
theorem pe_un {op : UnaryOp} {r : V → Hp → VK → Prop} (ho : UnR X (unaryOp op) r) (ha : PE X a ta) : PE X (.UnaryOp op a pos) (tUn r ta) := by
  intro pins s σ H Q I h
  exact UnaryOp_ (thn (ha pins s σ H _ I h) fun v s1 ⟨x, H1, I1, r1, q1⟩ => ho pins s1 σ H1 x v Q I1 r1 q1)
theorem opI {f : Value → Value → Sem Value} {C : Int → Int → Prop} {g : Int → Int → Int}
    (rule : ∀ (i j : Int) (t u : Tok) (s : Shared) (Q : Value → Shared → Prop) (E : Value → Shared → Prop), C i j → Q (.int (g i j) s.toks) { s with toks := s.toks + 1 } → wpAny (model X.prog X.w) X.A (f (.int i t) (.int j u)) Q E s) :
    OpR X f (rI C fun i j => .int (g i j)) := by
  intro pins s σ H x y v u Q I rx ry h
  obtain ⟨i, j, rfl, rfl, hc, q⟩ := h
  obtain ⟨t, rfl⟩ := rx
  obtain ⟨t', rfl⟩ := ry
  exact rule i j t t' s _ _ hc ⟨.int (g i j), H, I.tok _, ⟨_, rfl⟩, q⟩
theorem opI0 {f : Value → Value → Sem Value} {g : Int → Int → Int}
    (rule : ∀ (i j : Int) (t u : Tok) (s : Shared) (Q : Value → Shared → Prop) (E : Value → Shared → Prop), Q (.int (g i j) s.toks) { s with toks := s.toks + 1 } → wpAny (model X.prog X.w) X.A (f (.int i t) (.int j u)) Q E s) :
    OpR X f (rI0 fun i j => .int (g i j)) := by
  intro pins s σ H x y v u Q I rx ry h
  obtain ⟨i, j, rfl, rfl, q⟩ := h
  obtain ⟨t, rfl⟩ := rx
  obtain ⟨t', rfl⟩ := ry
  exact rule i j t t' s _ _ ⟨.int (g i j), H, I.tok _, ⟨_, rfl⟩, q⟩
theorem opB0 {f : Value → Value → Sem Value} {g : Int → Int → Bool}
    (rule : ∀ (i j : Int) (t u : Tok) (s : Shared) (Q : Value → Shared → Prop) (E : Value → Shared → Prop), Q (.bool (g i j)) s → wpAny (model X.prog X.w) X.A (f (.int i t) (.int j u)) Q E s) :
    OpR X f (rI0 fun i j => .bl (g i j)) := by
  intro pins s σ H x y v u Q I rx ry h
  obtain ⟨i, j, rfl, rfl, q⟩ := h
  obtain ⟨t, rfl⟩ := rx
  obtain ⟨t', rfl⟩ := ry
  exact rule i j t t' s _ _ ⟨.bl (g i j), H, I, rfl, q⟩
noncomputable def CDiv (i j : Int) : Prop := 0 < j ∧ j < 1073741824
noncomputable def CPow (i j : Int) : Prop := 0 ≤ j ∧ j ≤ 1000000 ∧ i.natAbs < 2 ^ 64
noncomputable def CMul (i j : Int) : Prop := (-(2 ^ 64) < i ∧ i < 2 ^ 64) ∨ (-(2 ^ 64) < j ∧ j < 2 ^ 64)
theorem CMul.ok {i j : Int} (h : CMul i j) : IntMulOk i j := by
  rcases h with ⟨h1, h2⟩ | ⟨h1, h2⟩
  · exact .of_left (intBits_le_64 h1 h2)
  · exact .of_right (intBits_le_64 h1 h2)
theorem op_add : OpR X (binaryOp .Add) (rI0 fun i j => .int (i + j)) := opI0 fun _ _ _ _ _ _ _ q => add_int q
theorem op_sub : OpR X (binaryOp .Sub) (rI0 fun i j => .int (i - j)) := opI0 fun _ _ _ _ _ _ _ q => sub_int q
theorem op_mul : OpR X (binaryOp .Mult) (rI CMul fun i j => .int (i * j)) := opI fun _ _ _ _ _ _ _ hc q => mul_int q hc.ok
theorem op_fdiv : OpR X (binaryOp .FloorDiv) (rI CDiv fun i j => .int (i / j)) := opI fun i j _ _ _ _ _ hc q => by
  have h1 : (0 : Int) < j := hc.1
  have h2 : j < 1073741824 := hc.2
  exact floordiv_int (by omega) (by rw [Int.fdiv_eq_ediv_of_nonneg i (by omega)]; exact q) (.inl (PyProof.noPylong_small (by omega)))
theorem op_mod : OpR X (binaryOp .Mod) (rI (fun _ j => 0 < j) fun i j => .int (i % j)) := opI fun i j _ _ _ _ _ hc q => by
  have h1 : (0 : Int) < j := hc
  exact mod_int' (by omega) (by rw [Int.fmod_eq_emod_of_nonneg i (by omega)]; exact q)
theorem op_pow : OpR X (binaryOp .Pow) (rI CPow fun i j => .int (i ^ j.toNat)) := opI fun _ _ _ _ _ _ _ hc q => pow_int_small hc.1 hc.2.1 hc.2.2 q
theorem unI {f : Value → Sem Value} {g : Int → Int}
    (rule : ∀ (i : Int) (t : Tok) (s : Shared) (Q : Value → Shared → Prop) (E : Value → Shared → Prop), Q (.int (g i) s.toks) { s with toks := s.toks + 1 } → wpAny (model X.prog X.w) X.A (f (.int i t)) Q E s) :
    UnR X f (rU fun i => .int (g i)) := by
  intro pins s σ H x v Q I rx h
  obtain ⟨i, rfl, q⟩ := h
  obtain ⟨t, rfl⟩ := rx
  exact rule i t s _ _ ⟨.int (g i), H, I.tok _, ⟨_, rfl⟩, q⟩
theorem un_neg : UnR X (unaryOp .USub) (rU fun i => .int (-i)) := unI fun _ _ _ _ _ q => neg_int q
end
section
variable {X : Cx} {a b c : Expr} {ta tb tc : TE} {pos : Pos}
theorem op_lt : OpR X (compareOp .Lt) (rI0 fun i j => .bl (decide (i < j))) := opB0 fun _ _ _ _ _ _ _ q => lt_int q
theorem op_le : OpR X (compareOp .LtE) (rI0 fun i j => .bl (decide (i ≤ j))) := opB0 fun _ _ _ _ _ _ _ q => le_int q
theorem op_gt : OpR X (compareOp .Gt) (rI0 fun i j => .bl (decide (j < i))) := opB0 fun _ _ _ _ _ _ _ q => gt_int q
theorem op_ge : OpR X (compareOp .GtE) (rI0 fun i j => .bl (decide (j ≤ i))) := opB0 fun _ _ _ _ _ _ _ q => ge_int q
theorem OpR.or {f : Value → Value → Sem Value} {r r' : R2} (h : OpR X f r) (h' : OpR X f r') : OpR X f (fun x y H Q => r x y H Q ∨ r' x y H Q) := by
  intro pins s σ H x y v u Q I rx ry q
  rcases q with q | q
  · exact h pins s σ H x y v u Q I rx ry q
  · exact h' pins s σ H x y v u Q I rx ry q
theorem nomark (b : Expr) {op : CmpOp} (h : op ≠ .In := by decide) (h2 : op ≠ .NotIn := by decide) : behindInMarks op b = false := by
  have e1 : (op == CmpOp.In) = false := by cases op <;> first | rfl | exact absurd rfl h
  have e2 : (op == CmpOp.NotIn) = false := by cases op <;> first | rfl | exact absurd rfl h2
  cases b <;> simp [behindInMarks, e1, e2]
theorem pe_cmpR {op : CmpOp} {r : R2} (ho : OpR X (compareOp op) r) (ha : PE X a ta) (hb : PE X b tb) (hm : behindInMarks op b = false) : PE X (.Compare a [op] [b] pos) (tOp r ta tb) := by
  intro pins s σ H Q I h
  exact wpAny_Compare1 (binT ha hb I h fun v u s2 x y H2 I2 rx ry q => ho pins s2 σ H2 x y v u Q I2 rx ry q) hm
noncomputable def tTest (t : TE) : TT := fun σ H Q => t σ H fun x H' => ∃ k, x = .bl k ∧ Q k H'
theorem pt_cmpR {op : CmpOp} {r : R2} (ho : OpR X (compareOp op) r) (ha : PE X a ta) (hb : PE X b tb) (hm : behindInMarks op b = false) : PT X (.Compare a [op] [b] pos) (tTest (tOp r ta tb)) := by
  intro pins s σ H Q I h
  refine wpAny_isTrue_Compare1 (thn (ha pins s σ H _ I h) fun v s1 ⟨x, H1, I1, r1, q1⟩ => thn (hb pins s1 σ H1 _ I1 q1) fun u s2 ⟨y, H2, I2, r2, q2⟩ =>
    thn (ho pins s2 σ H2 x y v u _ I2 r1 r2 q2) fun c s3 ⟨z, H3, I3, r3, k, e, q3⟩ => ?_) hm
  subst e
  cases r3
  exact wpAny_truthy_bool ⟨H3, I3, q3⟩
noncomputable def tChain (r r' : R2) (ta tb tc : TE) : TE := fun σ H Q => ta σ H fun x H1 => tb σ H1 fun y H2 => r x y H2 fun z H3 => ∃ k, z = .bl k ∧
  (if k = true then tc σ H3 fun w' H4 => r' y w' H4 Q else Q (.bl false) H3)
theorem pe_chain {op op' : CmpOp} {r r' : R2} (ho : OpR X (compareOp op) r) (ho' : OpR X (compareOp op') r') (ha : PE X a ta) (hb : PE X b tb) (hc : PE X c tc)
    (hm : lastMarks [op, op'] [b, c] = false := by with_unfolding_all rfl) : PE X (.Compare a [op, op'] [b, c] pos) (tChain r r' ta tb tc) := by
  intro pins s σ H Q I h
  refine Compare_chain (thn (ha pins s σ H _ I h) fun v s1 ⟨x, H1, I1, r1, q1⟩ => chain_link (thn (hb pins s1 σ H1 _ I1 q1) fun u s2 ⟨y, H2, I2, r2, q2⟩ =>
    thn (ho pins s2 σ H2 x y v u _ I2 r1 r2 q2) fun d s3 ⟨z, H3, I3, r3, k, e, q3⟩ => ?_)) hm
  subst e
  cases r3
  refine wpAny_truthy_bool ?_
  cases k with
  | false => exact ite_ff ⟨.bl false, H3, I3, rfl, q3⟩
  | true => exact ite_tt (chain_last (thn (hc pins s3 σ H3 _ I3 q3) fun w' s4 ⟨z', H4, I4, r4, q4⟩ => ho' pins s4 σ H4 y z' u w' Q I4 r2 r4 q4))
theorem line63 : (sizeLine : Nat) < 2 ^ 63 := by rw [sizeLine_eq]; decide
theorem op_add_str : OpR X (binaryOp .Add) (fun x y H Q => ∃ i j, x = .str i ∧ y = .str j ∧ i.length + j.length ≤ sizeLine ∧ Q (.str (i ++ j)) H) := by
  intro pins s σ H x y v u Q I rx ry h
  obtain ⟨i, j, rfl, rfl, hz, q⟩ := h
  obtain ⟨t, rfl⟩ := rx
  obtain ⟨t', rfl⟩ := ry
  exact add_str (fun t' tk => ⟨.str (i ++ j), H, I.tok _, ⟨_, rfl⟩, q⟩) hz
theorem vals1 {x : V} {us : List Value} (r : Vals [x] us) : ∃ u, us = [u] ∧ RelV x u := by
  cases r with
  | cons r1 r2 => cases r2; exact ⟨_, rfl, r1⟩
theorem vals2 {x y : V} {us : List Value} (r : Vals [x, y] us) : ∃ u w', us = [u, w'] ∧ RelV x u ∧ RelV y w' := by
  cases r with
  | cons r1 r2 =>
    cases r2 with
    | cons r3 r4 => cases r4; exact ⟨_, _, rfl, r1, r3⟩
theorem call_int1 : CallR X (.type "int") (fun xs H Q => (∃ i, xs = [.int i] ∧ Q (.int i) H) ∨ ∃ k, xs = [.bl k] ∧ Q (.int (if k then 1 else 0)) H) := by
  intro pins s σ H xs us Q I r h
  rcases h with ⟨i, rfl, q⟩ | ⟨k, rfl, q⟩
  · obtain ⟨u, rfl, t, rfl⟩ := vals1 r
    exact call_int_int ⟨.int i, H, I, ⟨_, rfl⟩, q⟩
  · obtain ⟨u, rfl, r1⟩ := vals1 r
    cases r1
    exact call_int_bool ⟨.int (if k then 1 else 0), H, I.tok _, ⟨_, rfl⟩, q⟩
theorem call_str_int : CallR X (.type "str") (fun xs H Q => ∃ i, xs = [.int i] ∧ i.natAbs.log2 < 1920 ∧ Q (.str (toString i)) H) := by
  intro pins s σ H xs us Q I r h
  obtain ⟨i, rfl, hz, q⟩ := h
  obtain ⟨u, rfl, t, rfl⟩ := vals1 r
  exact PySem.P.str_of_int hz ⟨.str _, H, I.tok _, ⟨_, rfl⟩, q⟩
end
end L2
namespace L2
open PySem PySem.Spec PyProof.Rows
structure ObjM (h : Heap) (x dx C : Addr) (mA : Str → Option Value) : Prop where
  obj : h.get? x = some (PySem.W.instObj C dx)
  ns : h.Ns1 dx mA
  ne : dx ≠ x
structure Cls (K : PySem.W.Frag) (C : Addr) : Prop where
  pg : PySem.W.plainGet K C Str.empty = true
  hd : PySem.W.hasDictIn K C = true
  po : PySem.W.plainOver K C = true
  sa : PySem.W.findIn K (.ref C) "__setattr__" = some (some (.builtin "object.__setattr__"))
theorem Cls.get {K : PySem.W.Frag} {C : Addr} (c : Cls K C) (f : Str) : PySem.W.plainGet K C f = true := c.pg
structure Con (K : PySem.W.Frag) (C : Addr) (f : Str) (v : V) (u : Value) : Prop where
  at_ : PySem.W.findIn K (.ref C) f = some (some u)
  rel : RelV v u
  get : PySem.W.specialIn K u "__get__" = some none
  cp : PySem.W.copiedNames.contains f = false
structure Meth (K : PySem.W.Frag) (C : Addr) (m : Str) (f : Addr) : Prop where
  at_ : PySem.W.findIn K (.ref C) m = some (some (.ref f))
  fn : PySem.W.isFn K (.ref f) = true
  kp : PySem.W.keepIn K (.ref f) = true
section
variable {X : Cx} {pins : List (Addr × Obj)} {σ : St} {H : Hp} {s : Shared} {A : Around} {E : Value → Shared → Prop} {Q : Value → Shared → Prop} {c : Value} {b : Bool}
inductive TyOf (K : PySem.W.Frag) (H : Hp) : V → Value → Prop where
  | non : TyOf K H .non (.type "NoneType")
  | bl (x : Bool) : TyOf K H (.bl x) (.type "bool")
  | int (i : Int) : TyOf K H (.int i) (.type "int")
  | str (x : Str) : TyOf K H (.str x) (.type "str")
  | flt (x : UInt64) : TyOf K H (.flt x) (.type "float")
  | lst {a : Addr} {xs : List V} (e : H a = some (.lst xs)) : TyOf K H (.ref a) (.type "list")
  | frz {a : Addr} {o : Obj} {xs : List V} (e : H a = some (.frz o (.lst xs))) : TyOf K H (.ref a) (.type "list")
  | tup {a : Addr} {xs : List V} (e : H a = some (.tup xs)) : TyOf K H (.ref a) (.type "tuple")
  | dK {a : Addr} {kvs : List (Key × V)} (e : H a = some (.dK kvs)) : TyOf K H (.ref a) (.type "dict")
  | dT {a : Addr} {kvs : List (List Key × V)} (e : H a = some (.dT kvs)) : TyOf K H (.ref a) (.type "dict")
  | ins {a C dx : Addr} {fs : List (Str × V)} (e : H a = some (.ins C dx fs)) (cl : Cls K C) (ha : PySem.W.findIn K (.ref C) "__class__" = some (some (.builtin "object.__class__")))
      (hn : PySem.W.specialIn K (.builtin "object.__class__") "__get__" = some (some (.builtin "getset_descriptor.__get__"))) (htk : PySem.W.takesIn K (.builtin "object.__class__") = some true)
      (hm : PySem.W.mroIn K C (.type "object") = some true) : TyOf K H (.ref a) (.ref C)
end
end L2
namespace L2
open PySem PySem.Spec PyProof.Rows
structure Room (k : Nat) (A : Around) : Prop where
  hd : A.handled = none
  dp : A.depth + 3 * k + 5 < recursionLimit
  un : A.units + 16 * k + 200 < cLine
theorem Room.mono {j k : Nat} {A : Around} (r : Room k A) (h : j ≤ k) : Room j A := ⟨r.hd, by have := r.dp; omega, by have := r.un; omega⟩
theorem Room.deeper {k : Nat} {A : Around} (r : Room (k + 1) A) (env : Env) : Room k (A.deeper env) :=
  ⟨r.hd, by have := r.dp; show A.depth + 1 + 3 * k + 5 < _; omega, by have := r.un; show A.units + 3 + 16 * k + 200 < _; omega⟩
theorem Room.in1 {k : Nat} {A : Around} (r : Room (k + 1) A) : Room k A.in1 :=
  ⟨r.hd, by have := r.dp; show A.depth + 3 * k + 5 < _; omega, by have := r.un; show A.units + 1 + 16 * k + 200 < _; omega⟩
theorem Room.depth {k : Nat} {A : Around} (r : Room k A) : A.depth < recursionLimit := by have := r.dp; omega
theorem Room.units {k : Nat} {A : Around} (r : Room k A) : A.units + 64 < cLine := by have := r.un; omega
noncomputable def tNil : TA := fun _ H Q => Q [] H
noncomputable def tCons (ta : TE) (tr : TA) : TA := fun σ H Q => ta σ H fun x H1 => tr σ H1 fun xs H2 => Q (x :: xs) H2
section
variable {X : Cx} {e : Expr} {es : List Expr} {te : TE} {t : TA} {pos : Pos}
theorem pa_nil : PA X [] tNil := fun _ _ _ _ H Q I h => Calls.spliced_nil ⟨[], H, I, .nil, h⟩
theorem pa_cons (ha : PE X e te) (hr : PA X es t) (hs : starEach (e :: es) X.env = (false, eval e X.env) :: starEach es X.env := by rfl) : PA X (e :: es) (tCons te t) := by
  intro pos pins s σ H Q I h
  rw [hs]
  show wpAny _ _ (spliced ((false, eval e X.env) :: backTo pos (starEach es X.env))) _ _ s
  refine Calls.spliced_cons (thn (ha pins s σ H _ I h) fun u s1 ⟨x, H1, I1, r1, q1⟩ => ?_)
  exact thn (hr pos pins s1 σ H1 _ I1 q1) fun us s2 ⟨xs, H2, I2, r2, q2⟩ => ⟨x :: xs, H2, I2, .cons r1 r2, q2⟩
noncomputable def tTup (t : TA) : TE := fun σ H Q => t σ H fun xs H1 => xs.length ≤ sizeLine ∧ ∀ p, H1 p = none → Q (.ref p) (upd H1 p (.tup xs))
noncomputable def tLst (t : TA) : TE := fun σ H Q => t σ H fun xs H1 => xs.length ≤ sizeLine ∧ ∀ p, H1 p = none → Q (.ref p) (upd H1 p (.lst xs))
theorem pe_tup {x1} (h : PA X es t) : PE X (.Tuple es x1 pos) (tTup t) := by
  intro pins s σ H Q I hq
  refine wpAny_Tuple_spliced (thn (h pos pins s σ H _ I hq) fun us s1 ⟨xs, H1, I1, r, z, q⟩ => ⟨by rw [← r.length]; exact z, ?_⟩)
  have hf : H1 s1.heap.objs.size = none := I1.hok.fresh (Nat.le_refl _)
  refine ⟨.ref s1.heap.objs.size, upd H1 s1.heap.objs.size (.tup xs), I1.laid (t' := s1.toks) (fun b u e => Heap.get?_push_of_some _ e) (Nat.le_refl _) ?_, rfl, q _ hf⟩
  exact ⟨z, us, r, ⟨_, Heap.get?_push_size _ rfl, rfl, _, rfl⟩⟩
theorem pe_lst (h : PA X es t) : PE X (.List es pos) (tLst t) := by
  intro pins s σ H Q I hq
  refine wpAny_List_spliced (thn (h pos pins s σ H _ I hq) fun us s1 ⟨xs, H1, I1, r, z, q⟩ => ⟨by rw [← r.length]; exact z, ?_⟩)
  have hf : H1 s1.heap.objs.size = none := I1.hok.fresh (Nat.le_refl _)
  refine ⟨.ref s1.heap.objs.size, upd H1 s1.heap.objs.size (.lst xs), I1.laid (t' := s1.toks) (fun b u e => Heap.get?_push_of_some _ e) (Nat.le_refl _) ?_, rfl, q _ hf⟩
  exact ⟨z, us, 0, r, Heap.get?_push_size _ rfl⟩
end
noncomputable abbrev Sp := List V → Hp → VK → XK → Prop
noncomputable abbrev CXT := List Env → Hp → Shared → XK → Value → Shared → Prop
structure Env0 (P : Program) (w : World) (K : PySem.W.Frag) (mg : Str → Option Value) (base : Heap) (A : Around) (outer : List Env) (s : Shared) (H : Hp) : Prop where
  frames : A.frames = some outer
  mod : Mod K mg base
  bs : ∀ b o, base.get? b = some o → s.heap.get? b = some o ∧ H b = none
  bsz : base.objs.size ≤ s.heap.objs.size
  funs : s.heap.FunFrames base outer
  frf : ∀ b ∈ frs outer, H b = none
  hok : HOk P w H s.heap
  bare : AllBare s.gens
noncomputable def CE (outer : List Env) (P : Program) (w : World) (H : Hp) (s : Shared) (Q : VK) (u : Value) (s' : Shared) : Prop :=
  ∃ v H', s'.os = s.os ∧ AllBare s'.gens ∧ Un (frs outer) [] H H' s.heap s'.heap ∧ HOk P w H' s'.heap ∧ RelV v u ∧ Q v H'
noncomputable def CR (CX : CXT) (outer : List Env) (P : Program) (w : World) (H : Hp) (s : Shared) (Q : VK) (E : XK) (r : Result) (s' : Shared) : Prop :=
  match r with
  | .ok (.ret u) => CE outer P w H s Q u s'
  | .ok _ => False
  | .error e => CX outer H s E e s'
structure FnOk (P : Program) (w : World) (K : PySem.W.Frag) (mg : Str → Option Value) (base : Heap) (CX : CXT) (k : Nat) (f : Addr) (fd : FuncData) (ps : List Str) (sp : Sp) : Prop where
  len : ∀ vs H Q E, sp vs H Q E → vs.length = ps.length
  run : ∀ (A : Around) (outer : List Env) (s : Shared) (H : Hp) (args : Args) (us : List Value) (vs : List V) (Q : VK) (E : XK), Room k A → Env0 P w K mg base A outer s H → BindsTo s fd args (ps.zip us) → Vals vs us → sp vs H Q E →
    codeAny (model P w) A (.call (.ref f) args) (CR CX outer P w H s Q E) s
theorem FnOk.mono {P : Program} {w : World} {K : PySem.W.Frag} {mg : Str → Option Value} {base : Heap} {CX : CXT} {j k : Nat} {f : Addr} {fd : FuncData} {ps : List Str} {sp : Sp} (F : FnOk P w K mg base CX j f fd ps sp) (h : j ≤ k) :
    FnOk P w K mg base CX k f fd ps sp := ⟨F.len, fun A outer s H args us vs Q E hr => F.run A outer s H args us vs Q E (hr.mono h)⟩
theorem FnOk.imp {P : Program} {w : World} {K : PySem.W.Frag} {mg : Str → Option Value} {base : Heap} {CX : CXT} {k : Nat} {f : Addr} {fd : FuncData} {ps : List Str} {sp sp' : Sp} (F : FnOk P w K mg base CX k f fd ps sp)
    (h : ∀ vs H Q E, sp' vs H Q E → sp vs H Q E) : FnOk P w K mg base CX k f fd ps sp' :=
  ⟨fun vs H Q E q => F.len vs H Q E (h _ _ _ _ q), fun A outer s H args us vs Q E hr he hb hv hs => F.run A outer s H args us vs Q E hr he hb hv (h _ _ _ _ hs)⟩
theorem Env0.in1 {P : Program} {w : World} {K : PySem.W.Frag} {mg : Str → Option Value} {base : Heap} {A : Around} {outer : List Env} {s : Shared} {H : Hp} (e : Env0 P w K mg base A outer s H) :
    Env0 P w K mg base A.in1 outer s H := ⟨e.frames, e.mod, e.bs, e.bsz, e.funs, e.frf, e.hok, e.bare⟩
section
variable {X : Cx} {pins : List (Addr × Obj)} {σ : St} {H : Hp} {s s' : Shared}
theorem Inv.env0 (I : Inv X pins σ H s) : Env0 X.prog X.w X.K X.mg X.base X.A X.stack s H :=
  ⟨I.ok.frames, I.ok.mod, I.bs, Nat.le_trans I.ok.bsz I.sz, I.stack, I.stkFree, I.hok, I.bare⟩
theorem Inv.after {Q : VK} {u : Value} (I : Inv X pins σ H s) (h : CE X.stack X.prog X.w H s Q u s') : EP X pins σ Q u s' := by
  obtain ⟨v, H', os, bare, un, hok, r, q⟩ := h
  obtain ⟨hh, g, d, t, os'⟩ := s'
  obtain rfl : os' = s.os := os
  exact ⟨v, H', I.call (h' := hh) (g' := g) (d' := d) (t' := t) (ch := []) un hok bare (fun b z => absurd z (by simp)), r, q⟩
end
noncomputable def tCall (sp : Sp) (dvs : List V) (E : XK) (t : TA) : TE := fun σ H Q => t σ H fun vs H1 => sp (vs ++ dvs) H1 Q E
noncomputable def Binds (K : PySem.W.Frag) (fd : FuncData) (ps : List Str) (ds : List Value) : Prop :=
  ∀ (s : Shared) (us : List Value), K.In s.heap → (us ++ ds).length = ps.length → BindsTo s fd ⟨us, []⟩ (ps.zip (us ++ ds))
theorem Binds.all {K : PySem.W.Frag} {fd : FuncData} {ps : List Str} (h : ∀ us : List Value, us.length = ps.length → bindArgs fd ⟨us, []⟩ = pure (ps.zip us)) : Binds K fd ps [] := fun s us _ hl => by
  rw [List.append_nil] at hl ⊢
  exact .of_eq (h us hl)
noncomputable def Passes (CX : CXT) (X : Cx) (E : XK) : Prop := ∀ (pins : List (Addr × Obj)) (σ : St) (H : Hp) (s : Shared) (e : Value) (s' : Shared), Inv X pins σ H s → CX X.stack H s E e s' → X.xe e s'
section
variable {X : Cx} {CX : CXT} {k : Nat} {f C : Addr} {fd : FuncData} {ps : List Str} {sp : Sp} {dvs : List V} {ds : List Value} {E : XK} {x m : Str} {p pos apos : Pos} {e o : Expr} {es : List Expr} {ta : TE} {t : TA}
theorem run_fn {pins : List (Addr × Obj)} {σ : St} {H : Hp} {s : Shared} {Q : VK} {us : List Value} {vs : List V} (F : FnOk X.prog X.w X.K X.mg X.base CX k f fd ps sp) (hr : Room k X.A) (hb : Binds X.K fd ps ds) (hd : Vals dvs ds) (hx : Passes CX X E)
    (I : Inv X pins σ H s) (r : Vals vs us) (h : sp (vs ++ dvs) H Q E) : wpAny (model X.prog X.w) X.A (call (.ref f) us) (EP X pins σ Q) X.xe s := by
  have r2 : Vals (vs ++ dvs) (us ++ ds) := r.append hd
  have hl : (us ++ ds).length = ps.length := by rw [← r2.length]; exact F.len _ _ _ _ h
  refine wpAny_call (codeAny_mono (F.run X.A X.stack s H ⟨us, []⟩ (us ++ ds) (vs ++ dvs) Q E hr I.env0 (hb s us I.kIn hl) r2 h) fun r s' hq => ?_)
  cases r with
  | error e => exact hx pins σ H s e s' I hq
  | ok fl =>
    cases fl with
    | ret u => exact I.after hq
    | next => exact False.elim hq
    | brk => exact False.elim hq
    | cont => exact False.elim hq
theorem pe_call (F : FnOk X.prog X.w X.K X.mg X.base CX k f fd ps sp) (hr : Room k X.A) (hg : Gl X x) (hm : X.mg x = some (.ref f)) (hk : PySem.W.keepIn X.K (.ref f) = true) (hb : Binds X.K fd ps ds) (hd : Vals dvs ds) (hx : Passes CX X E)
    (ha : PA X (e :: es) t) (hdb : (x == ("__debug__" : Str)) = false := by decide) (he : starEach (e :: es) X.env = (false, eval e X.env) :: starEach es X.env := by rfl) (hpl : (backTo pos (starEach es X.env)).any (·.1) = false := by rfl) :
    PE X (.Call (.Name x p) (e :: es) [] pos) (tCall sp dvs E t) := by
  intro pins s σ H Q I h
  refine wpAny_Call_Name_kw (ld_glob I hg hm ?_ hdb)
  refine PySem.W.callWith_K (h₀ := X.base) I.ok.mod.kin hk (thn (ha pos pins s σ H _ I h) fun us s1 ⟨vs, H1, I1, r, q⟩ => ⟨I1.kIn, ?_⟩) he hpl
  exact run_fn F hr hb hd hx I1 r q
structure Mk (K : PySem.W.Frag) (C f : Addr) : Prop where
  makes : PySem.W.makesIn K C = true
  init : PySem.W.findIn K (.ref C) "__init__" = some (some (.ref f))
  fn : PySem.W.isFn K (.ref f) = true
  kp : PySem.W.keepIn K (.ref C) = true
end
section
variable {X : Cx} {CX : CXT} {k : Nat} {f C : Addr} {fd : FuncData} {ps ks : List Str} {sp : Sp} {E : XK} {x m : Str} {p pos apos kpos : Pos} {e o : Expr} {es : List Expr} {kws : List Keyword} {te ta : TE} {t tk : TA} {nm : Option Str}
structure KBinds (K : PySem.W.Frag) (fd : FuncData) (ps ks : List Str) (g : List Value → List Value → List Value) (gV : List V → List V → List V) : Prop where
  to : ∀ (s : Shared) (us ws : List Value), K.In s.heap → (g us ws).length = ps.length → BindsTo s fd ⟨us, ks.zip ws⟩ (ps.zip (g us ws))
  rel : ∀ {vs : List V} {us : List Value} {zs : List V} {ws : List Value}, Vals vs us → Vals zs ws → Vals (gV vs zs) (g us ws)
variable {g : List Value → List Value → List Value} {gV : List V → List V → List V}
end
structure FnScope (N P : List Str) (sc : Scope) : Prop where
  kind : sc.kind = .function
  co : sc.isCoroutine = false
  gen : sc.isGenerator = false
  nd : N.Nodup
  pre : N.take P.length = P
  par : ∀ x ∈ P, sc.names.lookup x = some .local ∨ sc.names.lookup x = some .cell
  nofree : ∀ y ∈ sc.names, y.2 ≠ .free
theorem bindL_out {kindOf : Str → Option NameKind} {x : Str} : ∀ {binds : List (Str × Value)} {m : Str → Option Value}, (∀ v, (x, v) ∉ binds) → bindL kindOf binds m x = m x
  | [], _, _ => rfl
  | (n, v) :: r, m, h => by
    unfold bindL
    rw [bindL_out fun w hw => h w (List.mem_cons_of_mem _ hw)]
    split
    · have : x ≠ n := by rintro rfl; exact h v List.mem_cons_self
      simp [this]
    · rfl
theorem bindC_out {kindOf : Str → Option NameKind} {x : Str} : ∀ {binds : List (Str × Value)} {m : Str → Option Value}, (∀ v, (x, v) ∉ binds) → bindC kindOf binds m x = m x
  | [], _, _ => rfl
  | (n, v) :: r, m, h => by
    unfold bindC
    rw [bindC_out fun w hw => h w (List.mem_cons_of_mem _ hw)]
    split
    · rfl
    · have : x ≠ n := by rintro rfl; exact h v List.mem_cons_self
      simp [this]
theorem bindL_get {kindOf : Str → Option NameKind} {x : Str} {v : Value} : ∀ {P : List Str} {vs : List Value} {i : Nat} {m : Str → Option Value}, P.Nodup → P[i]? = some x → vs[i]? = some v → kindOf x = some .local →
    bindL kindOf (P.zip vs) m x = some v
  | [], _, _, _, _, h, _, _ => by simp at h
  | _ :: _, [], _, _, _, _, h, _ => by simp at h
  | p :: P, w :: vs, 0, m, nd, h1, h2, hk => by
    simp at h1 h2; subst h1; subst h2
    show bindL kindOf ((p, w) :: P.zip vs) m p = _
    unfold bindL
    rw [bindL_out fun v hv => (List.nodup_cons.mp nd).1 (List.of_mem_zip hv).1, if_pos hk]
    simp
  | p :: P, w :: vs, i + 1, m, nd, h1, h2, hk => by
    show bindL kindOf ((p, w) :: P.zip vs) m x = _
    unfold bindL
    exact bindL_get (i := i) (List.nodup_cons.mp nd).2 (by simpa using h1) (by simpa using h2) hk
theorem bindC_get {kindOf : Str → Option NameKind} {x : Str} {v : Value} : ∀ {P : List Str} {vs : List Value} {i : Nat} {m : Str → Option Value}, P.Nodup → P[i]? = some x → vs[i]? = some v → kindOf x ≠ some .local →
    bindC kindOf (P.zip vs) m x = some v
  | [], _, _, _, _, h, _, _ => by simp at h
  | _ :: _, [], _, _, _, _, h, _ => by simp at h
  | p :: P, w :: vs, 0, m, nd, h1, h2, hk => by
    simp at h1 h2; subst h1; subst h2
    show bindC kindOf ((p, w) :: P.zip vs) m p = _
    unfold bindC
    rw [bindC_out fun v hv => (List.nodup_cons.mp nd).1 (List.of_mem_zip hv).1, if_neg hk]
    simp
  | p :: P, w :: vs, i + 1, m, nd, h1, h2, hk => by
    show bindC kindOf ((p, w) :: P.zip vs) m x = _
    unfold bindC
    exact bindC_get (i := i) (List.nodup_cons.mp nd).2 (by simpa using h1) (by simpa using h2) hk
noncomputable def start (N : List Str) (vs : List V) : St := vs.map some ++ List.replicate (N.length - vs.length) none
noncomputable def cxOf (CX : CXT) (P : Program) (w : World) (K : PySem.W.Frag) (mg : Str → Option Value) (base : Heap) (N : List Str) (qual : Str) (scope : Scope) (f : Addr) (cd : Value) (A : Around) (outer : List Env) (s : Shared) (H : Hp) (E : XK) : Cx where
  prog := P
  w := w
  K := K
  mg := mg
  base := base
  A := A.deeper (envOfC qual scope s.heap.objs.size f cd)
  N := N
  s₀ := s
  H₀ := H
  env := envOfC qual scope s.heap.objs.size f cd
  outer := outer
  stack := envOfC qual scope s.heap.objs.size f cd :: outer
  ex := []
  calm := true
  fn := fun _ => true
  pn := []
  xe := fun e s' => wpAny (model P w) (A.deeper (envOfC qual scope s.heap.objs.size f cd)) (leaving (envOfC qual scope s.heap.objs.size f cd) e) (fun _ s'' => CX outer H s E e s'') (fun e' s'' => CX outer H s E e' s'') s'
theorem cell_has {sc : Scope} {n : Nat} {x : Str} (h : sc.names.lookup x = some .cell) : ∃ c, (cellsFrom n sc.names []).lookup x = some c := by
  have q := PySem.W.cellsFrom_some sc.names n [] (.inl h)
  exact Option.isSome_iff_exists.mp q
theorem inv_start {CX : CXT} {P : Program} {w : World} {K : PySem.W.Frag} {mg : Str → Option Value} {base : Heap} {N ps : List Str} {qual : Str} {scope : Scope} {f : Addr} {cd : Value} {A : Around} {outer : List Env} {s s1 : Shared} {H : Hp} {E : XK} {us : List Value} {vs : List V}
    (S : FnScope N ps scope) (hd : A.handled = none) (e0 : Env0 P w K mg base A outer s H) (hl : vs.length = ps.length) (r : Vals vs us)
    (x : InCallC s s.heap.objs.size (bindL (envOfC qual scope s.heap.objs.size f cd).kindOf (ps.zip us) fun _ => none) (cellsFrom (s.heap.objs.size + 1) scope.names []) (bindC (envOfC qual scope s.heap.objs.size f cd).kindOf (ps.zip us) fun _ => none) s1) :
    Inv (cxOf CX P w K mg base N qual scope f cd A outer s H E) [] (start N vs) H s1 := by
  have hpl : ps.length ≤ N.length := by have := congrArg List.length S.pre; rw [List.length_take] at this; omega
  obtain ⟨h1, tk, rfl, hk⟩ := x.done
  have noA : ∀ b : Addr, b ∉ (cxOf CX P w K mg base N qual scope f cd A outer s H E).ex := fun b z => absurd (show b ∈ ([] : List Addr) from z) (by simp)
  refine ⟨⟨e0.mod, S.kind, rfl, rfl, Nat.le_refl _, fun y z c h1 h2 => ?_, fun y hy => ?_, fun y c _ h => ?_, fun _ => hd, Around.frames_deeper e0.frames, .inr ⟨rfl, rfl⟩, fun b z => absurd z (noA b), e0.bs, e0.bsz, fun b _ _ => noA b, fun b z => absurd z (noA b), e0.funs, e0.frf⟩,
    rfl, e0.bare, Un.kept hk, ⟨_, x.toInCall.ns, fun i y v h1 h2 h3 => ?_⟩, fun y c h => ⟨_, x.cell y c h⟩, e0.hok.fresh (Nat.le_refl _), fun y c h => ?_, fun p hp => absurd (show p ∈ ([] : List (Addr × Obj)) from hp) (by simp), e0.hok.kept hk, ?_⟩
  · exact name_of_addr x.apart (PySem.mem_of_lookup h1) (PySem.mem_of_lookup h2)
  · have hy : scope.names.lookup y = some .cell ∨ scope.names.lookup y = some .free := hy
    rcases hy with hy | hy
    · exact cell_has hy
    · exact absurd rfl (S.nofree _ (PySem.mem_of_lookup hy))
  · exact Nat.le_of_lt (x.above y c (PySem.mem_of_lookup h))
  · have hi : i < vs.length := by
      unfold start at h2
      by_cases hi : i < vs.length
      · exact hi
      · rw [List.getElem?_append_right (by simpa using hi)] at h2
        rw [List.getElem?_replicate] at h2
        split at h2 <;> cases h2
    have ha : vs[i]? = some v := by
      unfold start at h2
      rw [List.getElem?_append_left (by simpa using hi), List.getElem?_map] at h2
      cases e : vs[i]? with
      | none => rw [e] at h2; cases h2
      | some a => rw [e] at h2; cases h2; rfl
    obtain ⟨u, hu, rv⟩ := r.get ha
    have hp : ps[i]? = some y := by
      rw [← S.pre, List.getElem?_take_of_lt (by omega)]; exact h1
    have ndP : ps.Nodup := by rw [← S.pre]; exact S.nd.sublist (List.take_sublist _ _)
    refine ⟨u, rv, ?_⟩
    rcases S.par y (List.mem_of_getElem? hp) with k | k
    · exact .inl ⟨k, bindL_get ndP hp hu k⟩
    · obtain ⟨c, e⟩ := cell_has (n := s.heap.objs.size + 1) k
      refine .inr ⟨.inl k, c, e, ?_⟩
      have q := x.cell y c e
      rw [bindC_get ndP hp hu (by show scope.names.lookup y ≠ _; rw [k]; decide)] at q
      exact q
  · exact e0.hok.fresh (Nat.le_of_lt (x.above y c (PySem.mem_of_lookup h)))
  · unfold start
    show _ = N.length
    rw [List.length_append, List.length_map, List.length_replicate]
    omega
theorem fn_of {CX : CXT} {P : Program} {w : World} {K : PySem.W.Frag} {mg : Str → Option Value} {base : Heap} {k : Nat} {f : Addr} {name qual : Str} {params : Arguments} {body : List Stmt} {scope : Scope} {dV kV doc pm cdv ct oc : Value} {an od : Option Addr}
    {osl : Array (Option Value)} {N ps : List Str} {sp : Sp} (lk : K.lookup f = some ⟨oc, od, .func (PySem.W.fnOf name qual params body scope dV kV doc pm an cdv ct), osl⟩) (hcd : PySem.W.codeIn K cdv qual = true) (S : FnScope N ps scope)
    (len : ∀ vs H Q E, sp vs H Q E → vs.length = ps.length)
    (hbody : ∀ (A : Around) (outer : List Env) (s : Shared) (H : Hp) (vs : List V) (Q : VK) (E : XK), Room k (A.deeper (envOfC qual scope s.heap.objs.size f cdv)) → sp vs H Q E →
      ∃ t, PSs (cxOf CX P w K mg base N qual scope f cdv A outer s H E) body t ∧ t { nx := fun _ H' => Q .non H', rt := Q } (start N vs) H) :
    FnOk P w K mg base CX (k + 1) f (PySem.W.fnOf name qual params body scope dV kV doc pm an cdv ct) ps sp := by
  refine ⟨len, fun A outer s H args us vs Q E hr e0 hb r hsp => ?_⟩
  have hl := len _ _ _ _ hsp
  have KX : K.In s.heap := e0.mod.kin.keeps fun b o e => (e0.bs b o e).1
  have lim : s.heap.NoLimit := e0.mod.nolimit.keeps fun b o e => (e0.bs b o e).1
  have hkind : ∀ y ∈ ps.zip us, scope.names.lookup y.1 = some .local ∨ (scope.names.lookup y.1 = some .cell ∧ ((cellsFrom (s.heap.objs.size + 1) scope.names []).lookup y.1).isSome = true) := fun ⟨n, v⟩ hy => by
    rcases S.par n (List.of_mem_zip hy).1 with q | q
    · exact .inl q
    · exact .inr ⟨q, PySem.W.cellsFrom_some _ _ _ (.inl q)⟩
  refine codeAny_call_function hr.depth (KX _ _ lk) rfl S.co S.gen rfl (PySem.W.codeRec_of KX hcd) (hb _ _ _ _ ?_)
  refine wpAny_newFunctionEnv_cells S.kind hkind fun env he s1 x => ?_
  subst he
  refine ⟨lim.keeps x.toInCall.keep, codeAny_func ?_⟩
  obtain ⟨t, ht, hq⟩ := hbody A outer s H vs Q E (hr.deeper _) hsp
  have I : Inv (cxOf CX P w K mg base N qual scope f cdv A outer s H E) [] (start N vs) H s1 := inv_start S hr.hd e0 hl r x
  refine wpAny_mono (ht [] s1 (start N vs) H _ I hq) (fun fl s' hs => ?_) fun e s' hs => hs
  have fin : ∀ {σ' : St} {H' : Hp} {v : V} {u : Value}, Inv (cxOf CX P w K mg base N qual scope f cdv A outer s H E) [] σ' H' s' → RelV v u → Q v H' → CE outer P w H s Q u s' :=
    fun {σ' H' v u} J rv q => ⟨v, H', J.os, J.bare, J.base, J.hok, rv, q⟩
  cases fl with
  | ret u =>
    obtain ⟨v, σ', H', J, rv, q⟩ := hs
    exact fin J rv q
  | next =>
    obtain ⟨σ', H', J, q⟩ := hs
    exact fin (v := V.non) (u := Value.none) J rfl q
  | brk =>
    obtain ⟨_, _, _, q⟩ := hs
    exact False.elim q
  | cont =>
    obtain ⟨_, _, _, q⟩ := hs
    exact False.elim q
end L2
namespace L2
open PySem PySem.Spec PyProof.Rows
section
variable {X : Cx} {x : Str} {p pos : Pos} {e : Expr} {es : List Expr} {t : TA} {id T : String} {r : List V → Hp → VK → Prop}
noncomputable def tCB (r : List V → Hp → VK → Prop) (t : TA) : TE := fun σ H Q => t σ H fun vs H1 => r vs H1 Q
theorem pe_callB (hc : CallR X (.builtin id) r) (hg : Gl X x) (hm : X.mg x = none) (hv : bootBuiltins x = some (.builtin id)) (ha : PA X (e :: es) t) (hn : x ≠ "__name__" := by decide) (hdb : (x == ("__debug__" : Str)) = false := by decide)
    (he : starEach (e :: es) X.env = (false, eval e X.env) :: starEach es X.env := by rfl) (hpl : (backTo pos (starEach es X.env)).any (·.1) = false := by rfl) : PE X (.Call (.Name x p) (e :: es) [] pos) (tCB r t) := by
  intro pins s σ H Q I h
  refine wpAny_Call_Name_kw (ld_blt I hg hm hv ?_ hn hdb)
  exact PyProof.Rows.callWith_builtin1 (thn (ha pos pins s σ H _ I h) fun us s1 ⟨vs, H1, I1, r1, q1⟩ => hc pins s1 σ H1 vs us Q I1 r1 q1) he hpl
theorem pe_callTy (hc : CallR X (.type T) r) (hg : Gl X x) (hm : X.mg x = none) (hv : bootBuiltins x = some (.type T)) (ha : PA X (e :: es) t) (hn : x ≠ "__name__" := by decide) (hdb : (x == ("__debug__" : Str)) = false := by decide)
    (he : starEach (e :: es) X.env = (false, eval e X.env) :: starEach es X.env := by rfl) (hpl : (backTo pos (starEach es X.env)).any (·.1) = false := by rfl) : PE X (.Call (.Name x p) (e :: es) [] pos) (tCB r t) := by
  intro pins s σ H Q I h
  refine wpAny_Call_Name_kw (ld_blt I hg hm hv ?_ hn hdb)
  exact PyProof.Rows.callWith_type1 (thn (ha pos pins s σ H _ I h) fun us s1 ⟨vs, H1, I1, r1, q1⟩ => hc pins s1 σ H1 vs us Q I1 r1 q1) he hpl
end
end L2
namespace HT
open PySem PyProof.Rows
section
variable {prog : Program} {w : World} {A : Around} {E : Value → Shared → Prop} {s : Shared}
noncomputable def sIx (n d : Nat) : Option Int → Nat
  | none => d
  | some v => if v < 0 then (v + (n : Int)).toNat else min v.toNat n
theorem sIx_le (n d : Nat) (hd : d ≤ n) (o : Option Int) : sIx n d o ≤ n := by
  cases o with
  | none => exact hd
  | some v =>
    show (if v < 0 then (v + (n : Int)).toNat else min v.toNat n) ≤ n
    by_cases hv : v < 0
    · rw [if_pos hv]; omega
    · rw [if_neg hv]; exact Nat.min_le_right _ _
theorem clip_eq (v : Int) (n d : Nat) : (if v < 0 then max (v + (n : Int)) 0 else min v (n : Int)) = ((sIx n d (some v) : Nat) : Int) := by
  show (if v < 0 then max (v + (n : Int)) 0 else min v (n : Int)) = (((if v < 0 then (v + (n : Int)).toNat else min v.toNat n) : Nat) : Int)
  by_cases hv : v < 0
  · simp only [if_pos hv]; omega
  · simp only [if_neg hv]; omega
theorem adjust_gen (lo hi : Option Int) (n : Nat) : Builtin.Slice.sliceAdjust lo hi 1 (n : Int) = (((sIx n 0 lo : Nat) : Int), ((sIx n n hi : Nat) : Int)) := by
  have h1 : ¬ ((1 : Int) < 0) := by omega
  unfold Builtin.Slice.sliceAdjust
  simp only [h1, if_false]
  refine Prod.ext ?_ ?_
  · cases lo with
    | none => rfl
    | some v => exact clip_eq v n 0
  · cases hi with
    | none => rfl
    | some v => exact clip_eq v n n
theorem places_gen (i j : Nat) : Builtin.Slice.slicePlaces (i : Int) (j : Int) 1 = j - i := by
  unfold Builtin.Slice.slicePlaces
  have h1 : (1 : Int) > 0 := by omega
  simp only [h1, if_true, Int.ediv_one]
  split <;> omega
theorem slicePart_ {v : Value} {o : Option Int} {Q : Option Int → Shared → Prop} (p : IsPart v o) (h : Q o s) : wpAny (model prog w) A (Builtin.Slice.slicePartIndex v) Q E s := by
  cases p with
  | none => exact slicePart_none h
  | int i t => exact slicePart_int h
theorem sliceApplied_gen {sl : Addr} {vl vu : Value} {lo hi : Option Int} {n : Nat} {Q : Int × Int × Nat → Shared → Prop} (hs : s.heap.IsSliceOf sl vl vu .none) (pl : IsPart vl lo) (pu : IsPart vu hi)
    (h : Q (((sIx n 0 lo : Nat) : Int), 1, sIx n n hi - sIx n 0 lo) s) : wpAny (model prog w) A (Builtin.Slice.sliceApplied (.ref sl) (pure (n : Int))) Q E s := by
  obtain ⟨os, hos, hcs, hds⟩ := id hs
  unfold Builtin.Slice.sliceApplied Builtin.Slice.sliceFields
  refine wpAny_bind (wpAny_bind (wpAny_field hos hds (x := vl) rfl (wpAny_bind (wpAny_field hos hds (x := vu) rfl (wpAny_bind (wpAny_field hos hds (x := .none) rfl (wpAny_pure ?_)))))))
  refine wpAny_bind (slicePart_none ?_)
  show wpAny _ _ (if ((1 : Int) == 0) = true then _ else _) _ _ s
  rw [if_neg (by decide)]
  refine wpAny_bind (slicePart_ pl (wpAny_bind (slicePart_ pu (wpAny_bind (wpAny_pure ?_)))))
  show wpAny _ _ (match Builtin.Slice.sliceAdjust lo hi 1 (n : Int) with | (lo, hi) => pure (lo, (1 : Int), Builtin.Slice.slicePlaces lo hi 1)) _ _ s
  rw [adjust_gen lo hi n]
  show wpAny _ _ (pure (((sIx n 0 lo : Nat) : Int), (1 : Int), Builtin.Slice.slicePlaces ((sIx n 0 lo : Nat) : Int) ((sIx n n hi : Nat) : Int) 1)) _ _ s
  rw [places_gen]
  exact wpAny_pure h
theorem pick_gen (xs : Array Value) (i k : Nat) : ((List.range k).filterMap fun (m : Nat) => xs[((i : Int) + (m : Int) * 1).toNat]?).toArray = ((xs.toList.drop i).take k).toArray := by
  have e : (fun (m : Nat) => xs[((i : Int) + (m : Int) * 1).toNat]?) = fun m => xs[i + m]? := by
    funext m
    have : ((i : Int) + (m : Int) * 1).toNat = i + m := by omega
    rw [this]
  rw [e]
  have := pick_run xs i k
  rw [List.filterMap_map] at this
  have e2 : ((fun x => xs[x]?) ∘ fun x => i + x) = fun m => xs[i + m]? := rfl
  rw [e2] at this
  rw [this]
theorem getItem_tuple_cut {t sl : Addr} {items : Array Value} {vl vu : Value} {lo hi : Option Int} {Q : Value → Shared → Prop} (ht : IsTup s.heap t items) (hs : s.heap.IsSliceOf sl vl vu .none) (pl : IsPart vl lo) (pu : IsPart vu hi)
    (hw : ¬ (sIx items.size 0 lo = 0 ∧ sIx items.size items.size hi = items.size))
    (h : Q (.ref s.heap.objs.size) { s with heap := s.heap.push { cls := .type "tuple", data := .seq ((items.toList.drop (sIx items.size 0 lo)).take (sIx items.size items.size hi - sIx items.size 0 lo)).toArray } })
    (hsz : items.size ≤ sizeLine) : wpAny (model prog w) A (getItem (.ref t) (.ref sl)) Q E s := by
  have htake : sizeOk (.seq ((items.toList.drop (sIx items.size 0 lo)).take (sIx items.size items.size hi - sIx items.size 0 lo)).toArray) := by
    show ((items.toList.drop (sIx items.size 0 lo)).take (sIx items.size items.size hi - sIx items.size 0 lo)).toArray.size ≤ sizeLine
    rw [List.size_toArray, List.length_take, List.length_drop, Array.length_toList]
    omega
  have hj : sIx items.size items.size hi ≤ items.size := sIx_le _ _ (Nat.le_refl _) hi
  obtain ⟨os, hos, hcs, hds⟩ := id hs
  have hTs : s.TypeIs (.ref sl) "slice" := ⟨os, hos, hcs⟩
  unfold getItem
  try with_reducible refine wpAny_holding ?_
  first | refine wpAny_bind (wpAny_pure ?_) | skip
  refine wpAny_bind (wpAny_sequenceKey ht.typeIs (by decide) ?_)
  refine wpAny_bind (wpAny_callSpecial?_slot (name := Str.ofString "__getitem__") ht.typeIs PyProof.Rows.slot_tuple_getitem
    (wpAny_call_entry PyProof.Rows.slot_tuple_getitem ht.typeIs entry_tuple_getitem ?_ (args_tuple_getitem _ _)))
  show wpAny _ _ (Builtin.Tuple.tupleItemsOf (.ref t) >>= _) _ _ s
  refine wpAny_bind (tupleItemsOf_ ht ?_)
  refine wpAny_bind (wpAny_typeOf hTs ?_)
  rw [if_pos (by decide)]
  refine wpAny_bind (sliceApplied_gen hs pl pu ?_)
  have hno : ¬ ((((sIx items.size 0 lo : Nat) : Int) == 0 && (1 : Int) == 1 && (sIx items.size items.size hi - sIx items.size 0 lo) == items.size) = true) := by
    intro q
    rw [Bool.and_eq_true, Bool.and_eq_true] at q
    have q1 : ((sIx items.size 0 lo : Nat) : Int) = 0 := eq_of_beq q.1.1
    have q2 : sIx items.size items.size hi - sIx items.size 0 lo = items.size := eq_of_beq q.2
    exact hw ⟨by omega, by omega⟩
  show wpAny _ _ (if (((sIx items.size 0 lo : Nat) : Int) == 0 && (1 : Int) == 1 && (sIx items.size items.size hi - sIx items.size 0 lo) == items.size) = true then _ else _) _ _ s
  rw [if_neg hno, pick_gen]
  first
    | exact wpAny_bind (m := Builtin.Tuple.tupleExact _) (wpAny_newObj_type (wpAny_pure ⟨_, rfl, wpAny_pure h⟩) htake)
    | exact wpAny_bind (m := Builtin.Tuple.tupleExact _) (wpAny_newObj_type (wpAny_bind (wpAny_pure (wpAny_pure ⟨_, rfl, wpAny_pure h⟩))) htake)
    | exact wpAny_bind (wpAny_bind (m := Builtin.Tuple.tupleExact _) (wpAny_newObj_type (wpAny_pure (wpAny_pure ⟨_, rfl, wpAny_pure h⟩)) htake))
    | exact wpAny_bind (wpAny_bind (m := Builtin.Tuple.tupleExact _) (wpAny_newObj_type (wpAny_pure ⟨_, rfl, wpAny_pure h⟩) htake))
end
end HT
namespace L2
open PySem PySem.Spec PyProof.Rows
noncomputable abbrev TO := St → Hp → (Option Int → Hp → Prop) → Prop
noncomputable def PO (X : Cx) (e : Option Expr) (t : TO) : Prop :=
  ∀ (pins : List (Addr × Obj)) (s : Shared) (σ : St) (H : Hp) (Q : Option Int → Hp → Prop), Inv X pins σ H s → t σ H Q →
    wpAny (model X.prog X.w) X.A (evalPart e X.env) (fun u s' => ∃ o H', Inv X pins σ H' s' ∧ IsPart u o ∧ Q o H') X.xe s
noncomputable def tNoPart : TO := fun _ H Q => Q none H
noncomputable def tPart (t : TE) : TO := fun σ H Q => t σ H fun x H1 => ∃ i, x = .int i ∧ Q (some i) H1
section
variable {X : Cx} {e : Expr} {te : TE} {lo hi : Option Expr} {tl th : TO} {pos p2 : Pos}
theorem po_none : PO X none tNoPart := by
  intro pins s σ H Q I h
  rw [evalPart_none]
  exact wpAny_pure ⟨none, H, I, .none, h⟩
theorem po_some (h : PE X e te) : PO X (some e) (tPart te) := by
  intro pins s σ H Q I hw
  rw [evalPart_some]
  refine thn (h pins s σ H _ I hw) fun u s1 ⟨x, H1, I1, r1, q1⟩ => ?_
  obtain ⟨i, rfl, q⟩ := q1
  obtain ⟨t, rfl⟩ := r1
  exact ⟨some i, H1, I1, .int i t, q⟩
noncomputable def SlR (X : Cx) (r : V → Option Int → Option Int → Hp → VK → Prop) : Prop :=
  ∀ (pins : List (Addr × Obj)) (s : Shared) (σ : St) (H : Hp) (x : V) (v vl vu : Value) (lo hi : Option Int) (sl : Addr) (Q : VK), Inv X pins σ H s → RelV x v → s.heap.IsSliceOf sl vl vu .none → IsPart vl lo → IsPart vu hi → r x lo hi H Q →
    ∃ T id, typeLookup (.type T) "__getitem__" = pure (some (.builtin id)) ∧ s.TypeIs v T ∧ wpAny (model X.prog X.w) X.A (getItem v (.ref sl)) (EP X pins σ Q) X.xe s
theorem SlR.or {r r' : V → Option Int → Option Int → Hp → VK → Prop} (h : SlR X r) (h' : SlR X r') : SlR X (fun x lo hi H Q => r x lo hi H Q ∨ r' x lo hi H Q) := by
  intro pins s σ H x v vl vu lo hi sl Q I rx hs pl pu q
  rcases q with q | q
  · exact h pins s σ H x v vl vu lo hi sl Q I rx hs pl pu q
  · exact h' pins s σ H x v vl vu lo hi sl Q I rx hs pl pu q
noncomputable def tSl (r : V → Option Int → Option Int → Hp → VK → Prop) (te : TE) (tl th : TO) : TE := fun σ H Q => te σ H fun x H1 => tl σ H1 fun l H2 => th σ H2 fun u H3 => r x l u H3 Q
theorem pe_slice {r : V → Option Int → Option Int → Hp → VK → Prop} (hr : SlR X r) (he : PE X e te) (hl : PO X lo tl) (hu : PO X hi th) : PE X (.Subscript e (.Slice lo hi none p2) pos) (tSl r te tl th) := by
  intro pins s σ H Q I h
  refine Subscript_ (thn (he pins s σ H _ I h) fun v s1 ⟨x, H1, I1, r1, q1⟩ => ?_)
  refine wpAny_Slice (thn (hl pins s1 σ H1 _ I1 q1) fun vl s2 ⟨l, H2, I2, pl, q2⟩ => thn (hu pins s2 σ H2 _ I2 q2) fun vu s3 ⟨u, H3, I3, pu, q3⟩ => ?_)
  rw [evalPart_none]
  refine wpAny_pure ?_
  have I4 : Inv X pins σ H3 { s3 with heap := s3.heap.push { cls := .type "slice", data := .fields #[vl, vu, .none] } } := I3.kept (t' := s3.toks) fun b ob q => Heap.get?_push_of_some _ q
  obtain ⟨T, id, hT, ht, hg⟩ := hr pins { s3 with heap := s3.heap.push { cls := .type "slice", data := .fields #[vl, vu, .none] } } σ H3 x v vl vu l u s3.heap.objs.size Q I4 r1 (Heap.IsSliceOf.new ..) pl pu q3
  show wpAny (model X.prog X.w) X.A (subscriptTail e (.Slice lo hi none p2) v (.ref s3.heap.objs.size)) (EP X pins σ Q) X.xe { s3 with heap := s3.heap.push { cls := .type "slice", data := .fields #[vl, vu, .none] } }
  exact tail_any (ops := [.ref s3.heap.objs.size, v]) ht hT hg (by with_unfolding_all rfl)
noncomputable def cutV (xs : List V) (lo hi : Option Int) : List V := (xs.drop (HT.sIx xs.length 0 lo)).take (HT.sIx xs.length xs.length hi - HT.sIx xs.length 0 lo)
theorem cutV_length (xs : List V) (lo hi : Option Int) : (cutV xs lo hi).length ≤ xs.length := by
  unfold cutV
  rw [List.length_take, List.length_drop]
  omega
noncomputable def rSlT (K : PySem.W.Frag) : V → Option Int → Option Int → Hp → VK → Prop := fun x lo hi H Q => ∃ a xs, x = .ref a ∧ SqT K H a xs ∧
  ¬ (HT.sIx xs.length 0 lo = 0 ∧ HT.sIx xs.length xs.length hi = xs.length) ∧ ∀ p, H p = none → Q (.ref p) (upd H p (.tup (cutV xs lo hi)))
theorem sl_tup : SlR X (rSlT X.K) := by
  intro pins s σ H x v vl vu lo hi sl Q I rx hs pl pu h
  obtain ⟨a, xs, rfl, hx, hw, q⟩ := h
  cases rx
  obtain ⟨its, r, ht, hz⟩ := I.tuple hx
  have hlen : its.toArray.size = xs.length := by rw [List.size_toArray]; exact r.length.symm
  refine ⟨"tuple", _, PyProof.Rows.slot_tuple_getitem.lookup, ht.typeIs, ?_⟩
  refine HT.getItem_tuple_cut ht hs pl pu (by rw [hlen]; exact hw) ?_ (by rw [hlen]; exact hz)
  rw [hlen]
  refine ⟨.ref s.heap.objs.size, _, I.laid (t' := s.toks) (o := .tup (cutV xs lo hi)) (fun b ob q => Heap.get?_push_of_some _ q) (Nat.le_refl _) ?_, rfl, q _ (I.hok.fresh (Nat.le_refl _))⟩
  exact ⟨Nat.le_trans (cutV_length xs lo hi) hz, _, (r.drop (HT.sIx xs.length 0 lo)).take (HT.sIx xs.length xs.length hi - HT.sIx xs.length 0 lo), IsTup.new _ _⟩
end
end L2
namespace L2
open PySem PySem.Spec PyProof.Rows
noncomputable def ixN (n : Nat) (i : Int) : Option Nat := if 0 ≤ i then (if i < n then some i.toNat else none) else if -(n : Int) ≤ i then some (i + n).toNat else none
noncomputable def atI {α : Type} (xs : List α) (i : Int) : Option α := (ixN xs.length i).bind fun j => xs[j]?
theorem ixN_seq {n : Nat} {i : Int} {j : Nat} (h : ixN n i = some j) : seqIndex? i n = some j ∧ j < n ∧ -(n : Int) ≤ i ∧ i < n := by
  unfold ixN at h
  by_cases h0 : 0 ≤ i
  · rw [if_pos h0] at h
    by_cases h1 : i < n
    · rw [if_pos h1] at h
      have e : i.toNat = j := Option.some.inj h
      exact ⟨by rw [seqIndex_of h0 h1, e], by omega, by omega, h1⟩
    · rw [if_neg h1] at h; cases h
  · rw [if_neg h0] at h
    by_cases h1 : -(n : Int) ≤ i
    · rw [if_pos h1] at h
      have e : (i + n).toNat = j := Option.some.inj h
      exact ⟨by rw [seqIndex_neg (by omega) h1, e], by omega, h1, by omega⟩
    · rw [if_neg h1] at h; cases h
theorem atI_get {α : Type} {xs : List α} {i : Int} {v : α} (h : atI xs i = some v) : ∃ j, seqIndex? i xs.length = some j ∧ xs[j]? = some v ∧ j < xs.length ∧ -(xs.length : Int) ≤ i ∧ i < xs.length := by
  unfold atI at h
  cases e : ixN xs.length i with
  | none => rw [e] at h; cases h
  | some j =>
    rw [e] at h
    obtain ⟨h1, h2, h3, h4⟩ := ixN_seq e
    exact ⟨j, h1, h, h2, h3, h4⟩
theorem atI_nat {α : Type} {xs : List α} {j : Nat} {v : α} (h : xs[j]? = some v) : atI xs (j : Int) = some v := by
  have hj : j < xs.length := (List.getElem?_eq_some_iff.mp h).1
  have e : ixN xs.length (j : Int) = some j := by
    unfold ixN
    rw [if_pos (by omega), if_pos (by omega)]; simp
  unfold atI; rw [e]; exact h
theorem atI_last {α : Type} (xs : List α) (v : α) : atI (xs ++ [v]) (-1) = some v := by
  have hl : (xs ++ [v]).length = xs.length + 1 := by simp
  have e : ixN (xs ++ [v]).length (-1) = some xs.length := by
    unfold ixN
    rw [hl, if_neg (by decide), if_pos (by omega)]
    congr 1
    omega
  unfold atI
  rw [e]
  show (xs ++ [v])[xs.length]? = some v
  simp
noncomputable def PlainIx (b : Expr) : Prop := ∀ o i, subscripted b false o i = operate [o, i] (getItem o i)
noncomputable def IxR (X : Cx) (r : R2) : Prop :=
  ∀ (value slice : Expr) (pins : List (Addr × Obj)) (s : Shared) (σ : St) (H : Hp) (x y : V) (v u : Value) (Q : VK), Inv X pins σ H s → RelV x v → RelV y u → r x y H Q →
    subscripted slice false v u = operate [v, u] (getItem v u) → wpAny (model X.prog X.w) X.A (subscriptTail value slice v u) (EP X pins σ Q) X.xe s
noncomputable def MtR (X : Cx) (id : String) (r : V → List V → Hp → VK → Prop) : Prop :=
  ∀ (pins : List (Addr × Obj)) (s : Shared) (σ : St) (H : Hp) (x : V) (xs : List V) (v : Value) (us : List Value) (Q : VK), Inv X pins σ H s → RelV x v → Vals xs us → r x xs H Q →
    wpAny (model X.prog X.w) X.A (call (.builtin id) (v :: us)) (EP X pins σ Q) X.xe s
section
variable {X : Cx} {a b : Expr} {ta tb : TE} {pos : Pos}
theorem IxR.or {r r' : R2} (h : IxR X r) (h' : IxR X r') : IxR X (fun x y H Q => r x y H Q ∨ r' x y H Q) := by
  intro value slice pins s σ H x y v u Q I rx ry q hs
  rcases q with q | q
  · exact h value slice pins s σ H x y v u Q I rx ry q hs
  · exact h' value slice pins s σ H x y v u Q I rx ry q hs
theorem MtR.or {id : String} {r r' : V → List V → Hp → VK → Prop} (h : MtR X id r) (h' : MtR X id r') : MtR X id (fun x xs H Q => r x xs H Q ∨ r' x xs H Q) := by
  intro pins s σ H x xs v us Q I rx rs q
  rcases q with q | q
  · exact h pins s σ H x xs v us Q I rx rs q
  · exact h' pins s σ H x xs v us Q I rx rs q
theorem pe_ix {r : R2} (hr : IxR X r) (ha : PE X a ta) (hb : PE X b tb) (hs : PlainIx b) : PE X (.Subscript a b pos) (tOp r ta tb) := by
  intro pins s σ H Q I h
  exact Subscript_ (binT ha hb I h fun v u s2 x y H2 I2 rx ry q => hr a b pins s2 σ H2 x y v u Q I2 rx ry q (hs _ _))
noncomputable def rIxL (K : PySem.W.Frag) : R2 := fun x y H Q => ∃ p xs i v, x = .ref p ∧ y = .int i ∧ SqL K H p xs ∧ atI xs i = some v ∧ Q v H
noncomputable def rIxT (K : PySem.W.Frag) : R2 := fun x y H Q => ∃ p xs i v, x = .ref p ∧ y = .int i ∧ SqT K H p xs ∧ atI xs i = some v ∧ Q v H
noncomputable def rIxS : R2 := fun x y H Q => ∃ z i c, x = .str z ∧ y = .int i ∧ z.length ≤ sizeLine ∧ atI z.cps.toList i = some c ∧ Q (.str ⟨#[c]⟩) H
theorem ix_list : IxR X (rIxL X.K) := by
  intro value slice pins s σ H x y v u Q I rx ry h hs
  obtain ⟨p, xs, i, z, rfl, rfl, hq, he, q⟩ := h
  cases rx
  obtain ⟨t, rfl⟩ := ry
  obtain ⟨its, r, pl, hz⟩ := I.list hq
  obtain ⟨j, h1, h2, h3, h4, h5⟩ := atI_get he
  obtain ⟨w, ew, rw'⟩ := r.get h2
  have hl := r.length
  have hn := line63
  have fin : EP X pins σ Q w s := ⟨z, H, I, rw', q⟩
  by_cases h0 : 0 ≤ i
  · have hj : i.toNat = j := by
      rw [seqIndex_of h0 h5] at h1
      exact Option.some.inj h1
    exact item_listR pl.isList h0 (by omega) (by rw [hj]; simpa using ew) fin hs
  · have hj : (i + (its.toArray.size : Int)).toNat = j := by
      rw [seqIndex_neg (by omega) h4] at h1
      rw [List.size_toArray, ← hl]
      exact Option.some.inj h1
    exact subscriptTail_builtinR (x := w) pl.isList.typeIs slot_list_getitem.lookup
      (wpAny_getItem_list_neg (Q := fun r s' => r = w ∧ EP X pins σ Q r s') pl.isList (by omega) (by rw [List.size_toArray] <;> omega) (by omega) (by rw [hj]; simpa using ew) ⟨rfl, fin⟩) hs
theorem ix_tup : IxR X (rIxT X.K) := by
  intro value slice pins s σ H x y v u Q I rx ry h hs
  obtain ⟨p, xs, i, z, rfl, rfl, hq, he, q⟩ := h
  cases rx
  obtain ⟨t, rfl⟩ := ry
  obtain ⟨its, r, pl, hz⟩ := I.tuple hq
  obtain ⟨j, h1, h2, h3, h4, h5⟩ := atI_get he
  obtain ⟨w, ew, rw'⟩ := r.get h2
  have hl := r.length
  have hn := line63
  have fin : EP X pins σ Q w s := ⟨z, H, I, rw', q⟩
  exact subscriptTail_builtinR (x := w) pl.typeIs slot_tuple_getitem.lookup
    (getItem_tuple (j := j) (Q := fun r s' => r = w ∧ EP X pins σ Q r s') pl (by omega) (by omega) (by rw [List.size_toArray, ← hl]; exact h1) (by simpa using ew) ⟨rfl, fin⟩) hs
theorem ix_str : IxR X rIxS := by
  intro value slice pins s σ H x y v u Q I rx ry h hs
  obtain ⟨z, i, c, rfl, rfl, hz, he, q⟩ := h
  obtain ⟨t, rfl⟩ := rx
  obtain ⟨t', rfl⟩ := ry
  obtain ⟨j, h1, h2, h3, h4, h5⟩ := atI_get he
  have hl : z.cps.toList.length = z.length := by simp [Str.length]
  rw [hl] at h1 h4 h5
  have hn := line63
  exact tail_any (typeIs_str s z t) slot_str_getitem.lookup (getItem_str (c := c) (by
    have e1 : decide (i < -(2 ^ 63 : Int)) = false := decide_eq_false (by omega)
    have e2 : decide (i ≥ 2 ^ 63) = false := decide_eq_false (by omega)
    rw [e1, e2, Bool.or_false]) (by rw [h1]; simpa using h2) ⟨.str ⟨#[c]⟩, H, I.tok _, ⟨_, rfl⟩, q⟩) hs
noncomputable def rIx (K : PySem.W.Frag) : R2 := fun x y H Q => rIxL K x y H Q ∨ rIxT K x y H Q ∨ rIxS x y H Q
theorem ix_seq : IxR X (rIx X.K) := ix_list.or (ix_tup.or ix_str)
theorem mapSeq_set (its : List Value) (n j : Nat) (u : Value) : Obj.mapSeq (·.setIfInBounds j u) { cls := .type "list", data := .seq its.toArray n } = { cls := .type "list", data := .seq (its.set j u).toArray n } := by
  simp [Obj.mapSeq]
theorem Inv.lst {pins : List (Addr × Obj)} {σ : St} {H : Hp} {s : Shared} {p : Addr} {xs : List V} (I : Inv X pins σ H s) (h : H p = some (.lst xs)) :
    ∃ (its : List Value) (n : Nat), Vals xs its ∧ s.heap.get? p = some { cls := .type "list", data := .seq its.toArray n } ∧ xs.length ≤ sizeLine := by
  obtain ⟨z, its, n, r, e⟩ := I.hok p _ h
  exact ⟨its, n, r, e, z⟩
theorem Inv.lstUpd {pins : List (Addr × Obj)} {σ : St} {H : Hp} {s : Shared} {p : Addr} {xs ys : List V} {its its' : List Value} {n n' : Nat} {f : Obj → Obj} (I : Inv X pins σ H s) (h : H p = some (.lst xs))
    (ho : s.heap.get? p = some { cls := .type "list", data := .seq its.toArray n }) (hf : f { cls := .type "list", data := .seq its.toArray n } = { cls := .type "list", data := .seq its'.toArray n' }) (r : Vals ys its') (hz : ys.length ≤ sizeLine) (t : Nat) :
    Inv X pins σ (upd H p (.lst ys)) { s with heap := s.heap.update p f, toks := t } := by
  have e : (s.heap.update p f).get? p = some { cls := .type "list", data := .seq its'.toArray n' } := by
    rw [Heap.get?_update_self f ho (by rw [hf] <;> rfl), hf]
  refine I.write (x := p) (e := p) (by rw [h]; trivial) (.inl rfl) (fun b u hb q => (Heap.get?_update_other _ _ (Ne.symm hb)).trans q) ⟨_, e⟩ ?_
  exact ⟨hz, its', n', r, e⟩
noncomputable def rSetL : V → V → V → Hp → (Hp → Prop) → Prop := fun o i v H Q => ∃ p xs k j, o = .ref p ∧ i = .int k ∧ H p = some (.lst xs) ∧ ixN xs.length k = some j ∧ Q (upd H p (.lst (xs.set j v)))
theorem set_list : PSet X rSetL := by
  intro pins s σ H o i v ov iv u Q I ro ri rv h
  obtain ⟨p, xs, k, j, rfl, rfl, hp, hj, q⟩ := h
  cases ro
  obtain ⟨t, rfl⟩ := ri
  obtain ⟨its, n, r, ho, hz⟩ := I.lst hp
  obtain ⟨h1, h2, h3, h4⟩ := ixN_seq hj
  have hl := r.length
  have hn := line63
  have I' : Inv X pins σ (upd H p (.lst (xs.set j v))) { s with heap := s.heap.update p (Obj.mapSeq (·.setIfInBounds j u)) } :=
    I.lstUpd hp ho (mapSeq_set its n j u) (r.set rv j) (by rw [List.length_set]; exact hz) s.toks
  by_cases h0 : 0 ≤ k
  · have hk : k.toNat = j := by
      rw [seqIndex_of h0 h4] at h1
      exact Option.some.inj h1
    exact PySem.W.ki_setAt ho h0 (by omega) (by rw [List.size_toArray, ← hl]; exact h4) (by rw [hk]; exact ⟨_, I', q⟩)
  · have hk : (k + (its.toArray.size : Int)).toNat = j := by
      rw [seqIndex_neg (by omega) h3] at h1
      rw [List.size_toArray, ← hl]
      exact Option.some.inj h1
    exact PySem.W.ki_setBack ho (by omega) (by rw [List.size_toArray, ← hl]; exact h3) (by omega) (by rw [hk]; exact ⟨_, I', q⟩)
theorem slice_bounds (lo hi : Option Int) (n : Nat) : (sliceBounds lo hi none n).1 = ((HT.sIx n 0 lo : Nat) : Int) ∧ (sliceBounds lo hi none n).2.1 = ((HT.sIx n n hi : Nat) : Int) ∧ (sliceBounds lo hi none n).2.2 = 1 := by
  refine ⟨?_, ?_, rfl⟩
  · cases lo with
    | none => simp [sliceBounds, HT.sIx]
    | some i =>
      simp only [sliceBounds, HT.sIx, Option.getD_none, show (1 : Int) > 0 by decide, if_true]
      by_cases h : i < 0
      · simp only [h, if_true] <;> omega
      · simp only [h, if_false] <;> omega
  · cases hi with
    | none => simp [sliceBounds, HT.sIx]
    | some i =>
      simp only [sliceBounds, HT.sIx, Option.getD_none, show (1 : Int) > 0 by decide, if_true]
      by_cases h : i < 0
      · simp only [h, if_true] <;> omega
      · simp only [h, if_false] <;> omega
theorem slicePick_cut (its : List Value) (lo hi : Option Int) : slicePick its.toArray lo hi none = ((its.drop (HT.sIx its.length 0 lo)).take (HT.sIx its.length its.length hi - HT.sIx its.length 0 lo)).toArray := by
  obtain ⟨h1, h2, h3⟩ := slice_bounds lo hi its.toArray.size
  unfold slicePick
  rw [h1, h2, h3]
  simp only [sliceRange_one, pick_run, List.size_toArray] <;> rfl
noncomputable def rSlL (K : PySem.W.Frag) : V → Option Int → Option Int → Hp → VK → Prop := fun x lo hi H Q => ∃ a xs, x = .ref a ∧ SqL K H a xs ∧ ∀ p, H p = none → Q (.ref p) (upd H p (.lst (cutV xs lo hi)))
theorem sl_list : SlR X (rSlL X.K) := by
  intro pins s σ H x v vl vu lo hi sl Q I rx hs pl pu h
  obtain ⟨a, xs, rfl, hx, q⟩ := h
  cases rx
  obtain ⟨its, r, ht, hz⟩ := I.list hx
  have hlen := r.length
  refine ⟨"list", _, slot_list_getitem.lookup, ht.isList.typeIs, ?_⟩
  refine wpAny_getItem_list_slice ht.isList hs pl pu .none (by simp) ?_ (by rw [List.size_toArray] <;> omega)
  rw [slicePick_cut, ← hlen]
  refine ⟨.ref s.heap.objs.size, _, I.laid (t' := s.toks) (o := .lst (cutV xs lo hi)) (fun b ob q => Heap.get?_push_of_some _ q) (Nat.le_refl _) ?_, rfl, q _ (I.hok.fresh (Nat.le_refl _))⟩
  exact ⟨Nat.le_trans (cutV_length xs lo hi) hz, _, 0, (r.drop (HT.sIx xs.length 0 lo)).take (HT.sIx xs.length xs.length hi - HT.sIx xs.length 0 lo), Heap.get?_push_size _ rfl⟩
theorem call_len_seq : CallR X (.builtin "len") (fun xs H Q => ∃ p ys, xs = [.ref p] ∧ (SqL X.K H p ys ∨ SqT X.K H p ys) ∧ Q (.int ys.length) H) := by
  intro pins s σ H xs us Q I r h
  obtain ⟨p, ys, rfl, hq, q⟩ := h
  obtain ⟨u, rfl, rx⟩ := vals1 r
  cases rx
  have hn := line63
  rcases hq with hq | hq
  · obtain ⟨its, r', pl, hz⟩ := I.list hq
    have hlen := r'.length
    exact Calls.call_len_list pl.isList (by simp only [List.size_toArray] <;> omega) ⟨.int ys.length, H, I.tok _, ⟨s.toks + 1, by rw [List.size_toArray, hlen]⟩, q⟩
  · obtain ⟨its, r', pl, hz⟩ := I.tuple hq
    have hlen := r'.length
    exact len_tuple pl (by simp only [List.size_toArray] <;> omega) ⟨.int ys.length, H, I.tok _, ⟨s.toks + 1, by rw [List.size_toArray, hlen]⟩, q⟩
theorem call_len_str : CallR X (.builtin "len") (fun xs H Q => ∃ z, xs = [.str z] ∧ z.length ≤ sizeLine ∧ Q (.int z.length) H) := by
  intro pins s σ H xs us Q I r h
  obtain ⟨z, rfl, hz, q⟩ := h
  obtain ⟨u, rfl, t, rfl⟩ := vals1 r
  have hn := line63
  exact len_str (by omega) ⟨.int z.length, H, I.tok _, ⟨_, rfl⟩, q⟩
theorem CallR.or {f : Value} {r r' : List V → Hp → VK → Prop} (h : CallR X f r) (h' : CallR X f r') : CallR X f (fun xs H Q => r xs H Q ∨ r' xs H Q) := by
  intro pins s σ H xs us Q I rs q
  rcases q with q | q
  · exact h pins s σ H xs us Q I rs q
  · exact h' pins s σ H xs us Q I rs q
theorem call_list_of : CallR X (.type "list") (fun xs H Q => ∃ p ys, xs = [.ref p] ∧ (SqL X.K H p ys ∨ SqT X.K H p ys) ∧ ∀ l, H l = none → Q (.ref l) (upd H l (.lst ys))) := by
  intro pins s σ H xs us Q I r h
  obtain ⟨p, ys, rfl, hq, q⟩ := h
  obtain ⟨u, rfl, rx⟩ := vals1 r
  cases rx
  have fin : ∀ (its : List Value), Vals ys its → ys.length ≤ sizeLine → ∀ (h' : Heap) (c' : Nat), (∀ b o', s.heap.get? b = some o' → h'.get? b = some o') →
      h'.get? s.heap.objs.size = some { cls := .type "list", dict := none, data := .seq its.toArray c', slots := #[] } → EP X pins σ Q (.ref s.heap.objs.size) { s with heap := h' } := fun its r' hz h' c' kp e =>
    ⟨.ref s.heap.objs.size, _, I.laid (t' := s.toks) kp (Nat.le_refl _) (show ObjOk X.prog X.w _ h' _ (.lst ys) from ⟨hz, its, c', r', e⟩), rfl, q _ (I.hok.fresh (Nat.le_refl _))⟩
  rcases hq with hq | hq
  · obtain ⟨its, r', pl, hz⟩ := I.list hq
    have hlen := r'.length
    obtain ⟨o, ho, hc, n, hd⟩ := pl.isList
    exact call_list_seq p (.inl rfl) ho hc hd (fun h' c' kp e => fin its r' hz h' c' kp e) (by simp only [List.size_toArray] <;> omega)
  · obtain ⟨its, r', pl, hz⟩ := I.tuple hq
    have hlen := r'.length
    obtain ⟨o, ho, hc, n, hd⟩ := pl
    exact call_list_seq p (.inr rfl) ho hc hd (fun h' c' kp e => fin its r' hz h' c' kp e) (by simp only [List.size_toArray] <;> omega)
theorem call_tuple_of : CallR X (.type "tuple") (fun xs H Q => ∃ p ys, xs = [.ref p] ∧ ((SqL X.K H p ys ∧ ∀ l, H l = none → Q (.ref l) (upd H l (.tup ys))) ∨ (SqT X.K H p ys ∧ Q (.ref p) H))) := by
  intro pins s σ H xs us Q I r h
  obtain ⟨p, ys, rfl, h⟩ := h
  obtain ⟨u, rfl, rx⟩ := vals1 r
  cases rx
  rcases h with ⟨hq, q⟩ | ⟨hq, q⟩
  · obtain ⟨its, r', pl, hz⟩ := I.list hq
    have hlen := r'.length
    refine call_tuple_list pl.isList (fun h' kp => ?_) (by simp only [List.size_toArray] <;> omega)
    have I1 : Inv X pins σ H { s with heap := h' } := I.kept (t' := s.toks) kp
    have I2 : Inv X pins σ (upd H h'.objs.size (.tup ys)) { s with heap := h'.push { cls := .type "tuple", data := .seq its.toArray } } :=
      I1.laid (t' := s.toks) (fun b o e => Heap.get?_push_of_some _ e) (Nat.le_refl _) (show ObjOk X.prog X.w _ _ _ (.tup ys) from ⟨hz, its, r', IsTup.new _ _⟩)
    exact ⟨.ref h'.objs.size, _, I2, rfl, q _ (I1.hok.fresh (Nat.le_refl _))⟩
  · obtain ⟨its, r', pl, hz⟩ := I.tuple hq
    exact call_tuple_same pl ⟨.ref p, H, I, rfl, q⟩
noncomputable def tyV (K : PySem.W.Frag) (T : String) (x : V) (H : Hp) : Prop := match x with
  | .str _ => T = "str"
  | .int _ => T = "int"
  | .ref p => (T = "list" ∧ ∃ xs, SqL K H p xs) ∨ (T = "tuple" ∧ ∃ o, K.lookup p = some o ∧ o.cls = .type "tuple" ∧ o.dict = none) ∨
      (T = "dict" ∧ ((∃ kvs, H p = some (.dK kvs)) ∨ ∃ kvs, H p = some (.dT kvs))) ∨ (T = "set" ∧ ∃ S n, H p = some (.set S n))
  | _ => False
theorem tyV_is {pins : List (Addr × Obj)} {σ : St} {H : Hp} {s : Shared} {T : String} {x : V} {v : Value} (I : Inv X pins σ H s) (r : RelV x v) (ty : tyV X.K T x H) :
    s.TypeIs v T ∧ ∀ a, v = .ref a → ∃ ob, s.heap.get? a = some ob ∧ ob.dict = none := by
  cases x with
  | str z =>
    obtain ⟨t, rfl⟩ := r
    cases (show T = "str" from ty)
    exact ⟨typeIs_str s z t, fun _ e => nomatch e⟩
  | int i =>
    obtain ⟨t, rfl⟩ := r
    cases (show T = "int" from ty)
    exact ⟨typeIs_int s i t, fun _ e => nomatch e⟩
  | ref p =>
    cases r
    rcases ty with ⟨rfl, xs, hq⟩ | ⟨rfl, o, hk, hc, hd⟩ | ⟨rfl, hk⟩ | ⟨rfl, S, n, hk⟩
    · obtain ⟨its, _, pl, _⟩ := I.list hq
      refine ⟨pl.isList.typeIs, fun a e => ?_⟩
      cases e
      obtain ⟨o, n, e, c, hd, _⟩ := pl
      exact ⟨o, e, hd⟩
    · refine ⟨⟨o, I.kIn p o hk, hc⟩, fun a e => ?_⟩
      cases e
      exact ⟨o, I.kIn _ o hk, hd⟩
    · have z : ∃ o, s.heap.get? p = some o ∧ o.ExactDict := by
        rcases hk with ⟨kvs, hk⟩ | ⟨kvs, hk⟩
        · obtain ⟨_, _, _, _, o, _, _, e, ex, _⟩ := I.hok p _ hk
          exact ⟨o, e, ex⟩
        · obtain ⟨_, _, _, _, o, _, _, e, ex, _⟩ := I.hok p _ hk
          exact ⟨o, e, ex⟩
      obtain ⟨o, e, ex⟩ := z
      refine ⟨⟨o, e, ex.1⟩, fun a e2 => ?_⟩
      cases e2
      exact ⟨o, e, ex.2.1⟩
    · obtain ⟨o, _, _, _, e, ex, _⟩ := I.hok p _ hk
      refine ⟨⟨o, e, ex.1⟩, fun a e2 => ?_⟩
      cases e2
      exact ⟨o, e, ex.2.1⟩
  | _ => exact False.elim ty
noncomputable def tBM0 (K : PySem.W.Frag) (T : String) (r : V → List V → Hp → VK → Prop) (to : TE) : TE := fun σ H Q => to σ H fun x H1 => tyV K T x H1 ∧ r x [] H1 Q
noncomputable def tBM (K : PySem.W.Frag) (T : String) (r : V → List V → Hp → VK → Prop) (to : TE) (t : TA) : TE := fun σ H Q => to σ H fun x H1 => tyV K T x H1 ∧ t σ H1 fun xs H2 => r x xs H2 Q
variable {o e : Expr} {es : List Expr} {to : TE} {t : TA} {name : Str} {apos cpos : Pos} {T id : String} {r : V → List V → Hp → VK → Prop}
theorem pe_bm0 (pa : PlainAttrs T) (slot : Slot T name id) (hty : typeOf (.builtin id) = pure (.type "method_descriptor")) (hm : MtR X id r) (ho : PE X o to)
    (hbase : attributeBase o name X.env (eval o X.env) = eval o X.env := by rfl) (hline : (apos.endLine == cpos.line) = true := by rfl) : PE X (.Call (.Attribute o name apos) [] [] cpos) (tBM0 X.K T r to) := by
  intro pins s σ H Q I h
  refine wpAny_Call_method0_late hbase hline (thn (ho pins s σ H _ I h) fun v s1 ⟨x, H1, I1, r1, ty, q1⟩ => ?_)
  obtain ⟨h1, h2⟩ := tyV_is I1 r1 ty
  exact ⟨T, id, pa, slot, hty, h1, h2, Calls.callWith_builtin rfl (PySem.evalArgs_none (hm pins s1 σ H1 x [] v [] Q I1 r1 .nil q1))⟩
theorem pe_bm (pa : PlainAttrs T) (slot : Slot T name id) (hty : typeOf (.builtin id) = pure (.type "method_descriptor")) (hm : MtR X id r) (ho : PE X o to) (ha : PA X (e :: es) t)
    (hbase : attributeBase o name X.env (eval o X.env) = eval o X.env := by rfl)
    (hfew : ((backTo cpos (starEach (e :: es) X.env)).all (fun x => !x.1) && (backToKw cpos (keywordEach [] X.env)).all (fun x => x.1.isSome)
      && decide ((e :: es).length + ([] : List Keyword).length + (if ([] : List Keyword).isEmpty then 0 else 1) < 30)) = true := by rfl)
    (hline : (apos.endLine == cpos.line) = true := by rfl) (hs : starEach (e :: es) X.env = (false, eval e X.env) :: starEach es X.env := by rfl) (hplain : (backTo cpos (starEach es X.env)).any (·.1) = false := by rfl) :
    PE X (.Call (.Attribute o name apos) (e :: es) [] cpos) (tBM X.K T r to t) := by
  intro pins s σ H Q I h
  refine wpAny_Call_method_late hbase hfew hline rfl (thn (ho pins s σ H _ I h) fun v s1 ⟨x, H1, I1, r1, ty, q1⟩ => ?_)
  obtain ⟨h1, h2⟩ := tyV_is I1 r1 ty
  refine ⟨T, id, pa, slot, hty, h1, h2, ?_⟩
  have hA := ha cpos pins s1 σ H1 _ I1 q1
  rw [hs] at hA ⊢
  refine Calls.callWith_builtin (by show (false || (backTo cpos (starEach es X.env)).any (·.1)) = false; rw [hplain] <;> rfl) (Calls.evalArgs_plain ?_)
  exact thn hA fun us s2 ⟨vs, H2, I2, r2, q2⟩ => hm pins s2 σ H2 x vs v us Q I2 r1 r2 q2
end
end L2
namespace L2
open PySem PySem.Spec PyProof.Rows
noncomputable def MtM (X : Cx) (id : String) (r : V → List V → Hp → VK → Prop) : Prop :=
  ∀ (pins : List (Addr × Obj)) (s : Shared) (σ : St) (H : Hp) (x : V) (xs : List V) (v : Value) (us : List Value) (Q : VK), Inv X pins σ H s → RelV x v → Vals xs us → r x xs H Q →
    wpAny (model X.prog X.w) X.A (call (.builtin id) (v :: us)) (EP X pins σ Q) X.xe s
theorem Vals.one : ∀ {x : V} {us : List Value}, Vals [x] us → ∃ u, us = [u] ∧ RelV x u
  | _, _, .cons r .nil => ⟨_, rfl, r⟩
theorem Vals.two : ∀ {x y : V} {us : List Value}, Vals [x, y] us → ∃ u v, us = [u, v] ∧ RelV x u ∧ RelV y v
  | _, _, _, .cons r (.cons q .nil) => ⟨_, _, rfl, r, q⟩
theorem Vals.zero : ∀ {us : List Value}, Vals [] us → us = []
  | _, .nil => rfl
theorem Vals.dropLast {xs : List V} {us : List Value} (h : Vals xs us) : Vals xs.dropLast us.dropLast := by
  induction h with
  | nil => exact .nil
  | cons r t ih =>
    cases t with
    | nil => exact .nil
    | cons q t' => exact .cons r ih
theorem Vals.eraseIdx : ∀ {xs : List V} {us : List Value} (i : Nat), Vals xs us → Vals (xs.eraseIdx i) (us.eraseIdx i)
  | _, _, _, .nil => .nil
  | _, _, 0, .cons _ t => t
  | _, _, i + 1, .cons r t => .cons r (Vals.eraseIdx i t)
theorem Vals.reverse {xs : List V} {us : List Value} (h : Vals xs us) : Vals xs.reverse us.reverse := by
  induction h with
  | nil => exact .nil
  | cons r t ih => rw [List.reverse_cons, List.reverse_cons]; exact Vals.append ih (.cons r .nil)
theorem len_erase {α : Type} : ∀ (l : List α) (i : Nat), (l.eraseIdx i).length ≤ l.length
  | [], _ => Nat.le_refl _
  | _ :: _, 0 => Nat.le_succ _
  | _ :: r, i + 1 => Nat.succ_le_succ (len_erase r i)
section
variable {X : Cx} {pins : List (Addr × Obj)} {σ : St} {H : Hp} {s : Shared} {l b : Addr} {xs ys zs : List V}
theorem Inv.lset {its its' : List Value} {n : Nat} {f : Array Value → Array Value} {t' : Nat} (I : Inv X pins σ H s) (hH : H l = some (.lst xs))
    (e : s.heap.get? l = some { cls := .type "list", data := .seq its.toArray n }) (hf : f its.toArray = its'.toArray) (hv : Vals ys its') (hz : ys.length ≤ sizeLine) :
    Inv X pins σ (upd H l (.lst ys)) { s with heap := s.heap.update l (Obj.mapSeq f), toks := t' } := by
  have q := PySem.IsL.update e f
  rw [hf] at q
  refine I.write (x := l) (e := l) (by rw [hH]; exact trivial) (.inl rfl) (fun b' u hb hu => (Heap.get?_update_other s.heap (Obj.mapSeq f) (Ne.symm hb)).trans hu) ⟨_, q⟩ ?_
  exact ⟨hz, its', _, hv, q⟩
theorem Inv.lnew {its : List Value} {t' : Nat} (I : Inv X pins σ H s) (hv : Vals ys its) (hz : ys.length ≤ sizeLine) :
    Inv X pins σ (upd H s.heap.objs.size (.lst ys)) { s with heap := s.heap.push { cls := .type "list", data := .seq its.toArray }, toks := t' } :=
  I.laid (fun _ _ q => Heap.get?_push_of_some _ q) (Nat.le_refl _) ⟨hz, its, 0, hv, Heap.get?_push_size _ rfl⟩
theorem Inv.fresh (I : Inv X pins σ H s) : H s.heap.objs.size = none := I.hok.fresh (Nat.le_refl _)
theorem Inv.lstM (I : Inv X pins σ H s) (hH : H l = some (.lst xs)) : xs.length ≤ sizeLine ∧ ∃ (its : List Value) (n : Nat), Vals xs its ∧ xs.length = its.length ∧ s.heap.get? l = some { cls := .type "list", data := .seq its.toArray n } := by
  obtain ⟨z, its, n, r, e⟩ := I.hok l _ hH
  exact ⟨z, its, n, r, r.length, e⟩
end
section
variable {X : Cx}
noncomputable def rAppend : V → List V → Hp → VK → Prop := fun x vs H Q => ∃ l xs y, x = .ref l ∧ vs = [y] ∧ H l = some (.lst xs) ∧ xs.length < sizeLine ∧ Q .non (upd H l (.lst (xs ++ [y])))
theorem mt_append : MtM X "list.append" rAppend := by
  intro pins s σ H x vs v us Q I rx rv h
  obtain ⟨l, xs, y, rfl, rfl, hH, hz, q⟩ := h
  cases rx
  obtain ⟨u, rfl, ru⟩ := rv.one
  obtain ⟨z, its, n, r, hl, e⟩ := I.lstM hH
  refine call_meets F.slot_list_append ⟨_, e, rfl⟩ F.entry_list_append (F.args_list_append_2 _ _) (PySem.list_append l its.toArray n u (by rw [List.size_toArray]; omega)) ⟨e, ?_⟩
  refine ⟨.non, _, I.lset (its' := its ++ [u]) hH e (by simp) (r.append (.cons ru .nil)) ?_, rfl, q⟩
  rw [List.length_append, List.length_singleton]
  omega
noncomputable def rPopAt : V → List V → Hp → VK → Prop := fun x vs H Q => ∃ l xs i k y, x = .ref l ∧ vs = [.int i] ∧ H l = some (.lst xs) ∧ -(2 ^ 63) ≤ i ∧ i < 2 ^ 63 ∧ seqIndex? i xs.length = some k ∧ xs[k]? = some y ∧ Q y (upd H l (.lst (xs.eraseIdx k)))
theorem mt_popAt : MtM X "list.pop" rPopAt := by
  intro pins s σ H x vs v us Q I rx rv h
  obtain ⟨l, xs, i, k, y, rfl, rfl, hH, h1, h2, hk, hy, q⟩ := h
  cases rx
  obtain ⟨u, rfl, ru⟩ := rv.one
  obtain ⟨t, rfl⟩ := ru
  obtain ⟨z, its, n, r, hl, e⟩ := I.lstM hH
  obtain ⟨w, hw, rw'⟩ := r.get hy
  refine call_meets F.slot_list_pop ⟨_, e, rfl⟩ F.entry_list_pop (F.args_list_pop_2 _ _)
    (MeetsSeq.list_pop_at l its.toArray n i t k w (fitsIndex_both h1 h2) (by rw [List.size_toArray, ← hl]; exact hk) (by rw [← Array.getElem?_toList]; exact hw) (by rw [List.size_toArray]; omega)) ⟨e, ?_⟩
  refine ⟨y, _, I.lset (its' := its.eraseIdx k) hH e ?_ (r.eraseIdx k) ?_, rw', q⟩
  · show its.toArray.eraseIdxIfInBounds k = (its.eraseIdx k).toArray
    rw [List.eraseIdxIfInBounds_toArray]
  · have := len_erase xs k
    omega
noncomputable def rReverse : V → List V → Hp → VK → Prop := fun x vs H Q => ∃ l xs, x = .ref l ∧ vs = [] ∧ H l = some (.lst xs) ∧ Q .non (upd H l (.lst xs.reverse))
theorem mt_reverse : MtM X "list.reverse" rReverse := by
  intro pins s σ H x vs v us Q I rx rv h
  obtain ⟨l, xs, rfl, rfl, hH, q⟩ := h
  cases rx
  have hus := rv.zero
  subst hus
  obtain ⟨z, its, n, r, hl, e⟩ := I.lstM hH
  refine call_meets F.slot_list_reverse ⟨_, e, rfl⟩ F.entry_list_reverse (F.args_list_reverse_1 _) (AutoSeq1.list_reverse_list_0 l its.toArray n (by rw [List.size_toArray]; omega)) ⟨e, ?_⟩
  refine ⟨.non, _, I.lset (its' := its.reverse) hH e (by simp) r.reverse ?_, rfl, q⟩
  rw [List.length_reverse]
  omega
end
end L2
namespace Att
open PySem PySem.W PySem.Calls PyProof.Rows
theorem ints_of_wellAll {P : Params} {h : Heap} : ∀ (ns : List Int) (vs : List Value), WellAll P h vs (ns.map WData.int) → IntsAre vs ns := by
  intro ns
  induction ns with
  | nil =>
    intro vs w
    rw [List.map_nil] at w
    cases w
    exact .nil
  | cons n ns ih =>
    intro vs w
    rw [List.map_cons] at w
    cases w with
    | cons a b =>
      cases a
      exact .cons _ _ (ih _ b)
theorem script_of {l : OpenLaw} {n : Nat} (hn : l.most = some n) {P : Params} {h : Heap} {args : List WData} {vals : List Value}
    (hpre : l.row.toRowW.claim.pre args = true) (hwl : WellAll P h vals args) :
    ∃ a vs ns, vals = [Value.ref a] ∧ args = [WData.list (ns.map WData.int)] ∧ h.get? a = some { cls := .type "list", data := .seq vs.toArray } ∧ IntsAre vs ns ∧ ns.length ≤ n := by
  have hsh : WShape.hasAll [] args [.list .int] = true := (pre_splitW hpre).1
  have hc : l.pre.holds [] { args := args } = true := (pre_splitW hpre).2
  obtain ⟨d, r, rfl, h1, h2⟩ := hasAllW_cons hsh
  obtain rfl := hasAllW_nil h2
  obtain ⟨xs, rfl, h3⟩ := hasW_list h1
  obtain ⟨ns, rfl⟩ := items_int h3
  have hlen : ns.length ≤ n := by
    unfold OpenLaw.pre at hc
    have h4 : (WTm.not (.lt (.lit (.int (n : Int))) (.len (.arg 0)))).holds [] { args := [.list (ns.map .int)] } = true := by
      have h4 := (holds_andW hc).1
      rw [hn] at h4
      exact h4
    have h5 := condW_of h4 (w_not (w_lt w_lit (w_len_list (w_arg rfl))))
    rw [List.length_map] at h5
    refine Nat.le_of_not_lt fun q => ?_
    have q' : (n : Int) < ((ns.length : Nat) : Int) := by omega
    first
      | (rw [decide_eq_true q'] at h5; exact absurd h5 (by decide))
      | (simp at h5; omega)
  cases hwl with
  | cons w1 w2 =>
    cases w2
    cases w1 with
    | list ho hall => exact ⟨_, _, ns, rfl, rfl, ho, ints_of_wellAll ns _ hall, hlen⟩
theorem post_true (l : OpenLaw) (args : List WData) : l.row.toRowW.claim.post args (.bool true) args = true :=
  postW_of (r := l.row.toRowW) (X := (true == true))
    (show WShape.has [] (.bool true) .bool = true by first | rfl | decide | simp [WShape.has, WShape.arms, WShape.armsAll])
    (show (WTm.eq .res (.lit (.bool true))).value [] { args := args, res := some (.bool true), after := args } = some (.bool (true == true)) from w_eq_bool (w_res rfl) w_lit) rfl
theorem attach_call {l : OpenLaw} {n : Nat} {q : Program} {loose : List Str} {XP : (Str → Option Value) → Heap → Prop} {YP : World → Heap → Prop} {d : DefRec}
    (hn : l.most = some n) (hdf : d.params.defaults = [])
    (call : ∀ (w : World) (s₀ s₁ : Shared) (mg mb : Str → Option Value) (fa : Addr) (o : Obj) (pm cd doc : Value) (a : Addr) (vs : List Value) (ns : List Int),
      Ground q loose [] XP w s₀ mg mb s₁.heap → YP w s₁.heap →
      s₁.heap.get? fa = some o → o.data = .func (docDef d.name d.params d.body d.scope pm cd doc) → s₁.heap.CodeRec cd d.name → mg d.name = some (.ref fa) →
      s₁.heap.get? a = some { cls := .type "list", data := .seq vs.toArray } → IntsAre vs ns → ns.length ≤ n → s₁.gens = #[] →
      codeAny (model l.prog w) callerA (.call (.ref fa) ⟨[.ref a], []⟩) (fun r s' => r = .ok (.ret (.bool true)) ∧ OldK s₁.heap s'.heap ∧ s'.os = s₁.os ∧ AllBare s'.gens) s₁) :
    WalkO q loose XP YP l.row.toRowW d [] (fun f vs => PySem.call f vs) := by
  intro w s₀ s₁ mg mb G Y fa o pm cd doc dV kV ho hd hcd hD hmg hg args vals as hpre hlay hrd hwl hlo
  obtain rfl : dV = .none := Dflts.none hD hdf
  obtain rfl : kV = .none := Dflts.noKw hD
  obtain ⟨a, vs, ns, rfl, rfl, hobj, hints, hlen⟩ := script_of hn hpre hwl
  refine enter_call (codeAny_mono (call w s₀ s₁ mg mb fa o pm cd doc a vs ns G Y ho (fd_plain hd) hcd hmg hobj hints hlen hg) fun r s' hq => ?_)
  obtain ⟨rfl, h2, h3, h4⟩ := hq
  exact ⟨.inl ⟨.bool true, .bool true, [], rfl, fun _ => rfl, .bool true, post_true l _, fun _ => ⟨List.Pairwise.nil, fun _ hm => (nomatch hm)⟩⟩, h2, h3, h4⟩
end Att
namespace L2
open PySem PySem.Spec PyProof.Rows
theorem vals_ints : ∀ {vs : List Value} {ns : List Int}, IntsAre vs ns → Vals (ns.map V.int) vs
  | _, _, .nil => .nil
  | _, _, .cons n t h => .cons ⟨t, rfl⟩ (vals_ints h)
noncomputable def Only (H : Hp) : Prop := ∀ b, H b = none ∨ ∃ o xs, H b = some (.frz o (.lst xs))
theorem law_call {P : Program} {w : World} {K : PySem.W.Frag} {mg mb : Str → Option Value} {CX : CXT} {k : Nat} {fa a : Addr} {fd : FuncData} {x : Str} {sp : Sp} {s₁ : Shared} {vs : List Value} {ns : List Int}
    (KX : K.In s₁.heap) (hns : s₁.heap.Ns mainGlobals mg) (hb : s₁.heap.Ns builtinsNs mb) (hbb : ∀ x : Str, x ≠ "__name__" → mb x = bootBuiltins x) (hlim : s₁.heap.NoLimit) (hg : s₁.gens = #[])
    (ha : s₁.heap.get? a = some { cls := .type "list", data := .seq vs.toArray }) (hi : IntsAre vs ns) (hl : ns.length ≤ sizeLine) (hr : Room k callerA)
    (F : ∀ base : Heap, K.In base → base.Ns mainGlobals mg → FnOk P w K mg base CX k fa fd [x] sp) (hbind : ∀ (s : Shared) (u : Value), BindsTo s fd ⟨[u], []⟩ [(x, u)])
    (hsp : ∀ H : Hp, Only H → SqL K H a (ns.map V.int) → sp [.ref a] H (fun v _ => v = .bl true) fun _ _ _ => False)
    (hCX : ∀ H e s', CX [] H s₁ (fun _ _ _ => False) e s' → False) :
    codeAny (model P w) callerA (.call (.ref fa) ⟨[.ref a], []⟩) (fun r s' => r = .ok (.ret (.bool true)) ∧ OldK s₁.heap s'.heap ∧ s'.os = s₁.os ∧ AllBare s'.gens) s₁ := by
  have rv := vals_ints hi
  have lenV := hi.length
  -- from an abstract heap in which nothing but the script may be tracked
  have core : ∀ H : Hp, Only H → SqL K H a (ns.map V.int) → HOk P w H s₁.heap → (∀ b, H b ≠ none → b = a) → (H a ≠ none → K.lookup a = none) →
      codeAny (model P w) callerA (.call (.ref fa) ⟨[.ref a], []⟩) (fun r s' => r = .ok (.ret (.bool true)) ∧ OldK s₁.heap s'.heap ∧ s'.os = s₁.os ∧ AllBare s'.gens) s₁ := by
    intro H hO hS hok hA hK
    have base_of : ∀ {b : Addr} {o : Obj}, s₁.heap.get? b = some o → H b = none → (hidT s₁.heap H).get? b = some o := fun e n => hidT_get e n
    have noA : ∀ {b : Addr} {o : Obj} {es : Array DictEntry} {ep : Nat}, s₁.heap.get? b = some o → o.data = .dict es ep → H b = none := fun {b o es ep} e d => by
      cases q : H b with
      | none => rfl
      | some u =>
        have e' : b = a := hA b (by rw [q]; simp)
        subst e'
        rw [ha] at e; cases e
        have d' : Data.seq vs.toArray _ = Data.dict es ep := d
        cases d'
    have nsK : ∀ {b : Addr} {m : Str → Option Value}, s₁.heap.Ns b m → (hidT s₁.heap H).Ns b m := fun {b m} ⟨o, es, ep, e, d, r⟩ => ⟨o, es, ep, base_of e (noA e d), d, r⟩
    have hKb : K.In (hidT s₁.heap H) := fun b o e => base_of (KX b o e) (by
      cases q : H b with
      | none => rfl
      | some u =>
        have e' : b = a := hA b (by rw [q]; simp)
        subst e'
        rw [hK (by rw [q]; simp)] at e; cases e)
    have hM : Mod K mg (hidT s₁.heap H) := ⟨hKb, nsK hns, ⟨mb, nsK hb, hbb⟩, let ⟨mc, h1, h2⟩ := hlim; ⟨mc, nsK h1, h2⟩⟩
    have e0 : Env0 P w K mg (hidT s₁.heap H) callerA [] s₁ H := ⟨rfl, hM, fun b o e => of_hidT e, Nat.le_of_eq (hidT_size _ _), trivial, fun b hb => absurd (show b ∈ ([] : List Addr) from hb) (by simp), hok, .of_eq hg⟩
    refine codeAny_mono ((F _ hKb (nsK hns)).run callerA [] s₁ H ⟨[.ref a], []⟩ [.ref a] [.ref a] _ _ hr e0 (hbind s₁ (.ref a)) (.cons rfl .nil) (hsp H hO hS)) fun r s' h => ?_
    cases r with
    | error e => exact (hCX H e s' h).elim
    | ok fl =>
      cases fl with
      | next => exact False.elim h
      | brk => exact False.elim h
      | cont => exact False.elim h
      | ret u =>
        obtain ⟨v, H', os, bare, un, hok', r', q⟩ := h
        have q' : v = .bl true := q
        subst q'
        obtain rfl : u = Value.bool true := r'
        refine ⟨rfl, OldK.of_keep fun b o e => ?_, os, bare⟩
        cases q : H b with
        | none => exact un.keep b o e q (by intro z; exact absurd (show b ∈ ([] : List Addr) from z) (by simp)) (by simp)
        | some u =>
          rcases hO b with z | ⟨ob, xs, z⟩
          · rw [q] at z; cases z
          · have z2 := un.frzs b ob _ z
            obtain ⟨e1, _⟩ := hok b _ z
            obtain ⟨e2, _⟩ := hok' b _ z2
            rw [e] at e1; cases e1
            exact e2
  cases hk : K.lookup a with
  | some o =>
    -- the script is one of the module's own objects
    have e := KX a o hk
    rw [ha] at e
    cases e
    refine core (fun _ => none) (fun _ => .inl rfl) (.inr ⟨_, vs.toArray, _, hk, rfl, rfl, rfl, by rw [List.size_toArray, lenV]; exact hl, by simpa using rv⟩) (fun b u z => by have z' : (none : Option HO) = some u := z; cases z') (fun b z => absurd rfl z) fun z => absurd rfl z
  | none =>
    refine core (fun b => if b = a then some (.frz { cls := .type "list", data := .seq vs.toArray } (.lst (ns.map V.int))) else none) (fun b => ?_) (.inl (.inr ⟨{ cls := .type "list", data := .seq vs.toArray }, if_pos rfl⟩)) (fun b u z => ?_) (fun b z => ?_) fun _ => hk
    · by_cases hb : b = a
      · exact .inr ⟨_, _, if_pos hb⟩
      · exact .inl (if_neg hb)
    · by_cases hb : b = a
      · have z' := (if_pos hb).symm.trans z
        cases z'
        subst hb
        exact ⟨ha, by rw [List.length_map]; exact hl, vs, _, rv, ha⟩
      · have z' := (if_neg hb).symm.trans z
        cases z'
    · by_cases hb : b = a
      · exact hb
      · exact absurd (if_neg hb) z
end L2
namespace L2
open PySem PySem.Spec PyProof.Rows
theorem walk_of {l : PySem.W.OpenLaw} {n k : Nat} {q : Program} {loose : List Str} {XP : (Str → Option Value) → Heap → Prop} {YP : World → Heap → Prop} {d : DefRec} {K : Params → PySem.W.Frag} {CX : World → CXT} {sp : World → Sp} {x : Str}
    (hn : l.most = some n) (hn2 : n ≤ sizeLine) (hdf : d.params.defaults = []) (hr : Room k callerA)
    (hY : ∀ (w : World) (h : Heap), YP w h → (K w.params).In h)
    (F : ∀ (w : World) (mg : Str → Option Value) (fa : Addr) (h : Heap), (K w.params).In h → h.Ns mainGlobals mg → mg d.name = some (.ref fa) →
      ∃ fd : FuncData, (∀ (s : Shared) (u : Value), BindsTo s fd ⟨[u], []⟩ [(x, u)]) ∧
        ∀ base : Heap, (K w.params).In base → base.Ns mainGlobals mg → FnOk l.prog w (K w.params) mg base (CX w) k fa fd [x] (sp w))
    (hsp : ∀ (w : World) (H : Hp) (a : Addr) (ns : List Int), ns.length ≤ n → Only H → SqL (K w.params) H a (ns.map V.int) → sp w [.ref a] H (fun v _ => v = .bl true) fun _ _ _ => False)
    (hCX : ∀ (w : World) (H : Hp) (s : Shared) (e : Value) (s' : Shared), CX w [] H s (fun _ _ _ => False) e s' → False) :
    PySem.W.WalkO q loose XP YP l.row.toRowW d [] (fun f vs => PySem.call f vs) := by
  refine Att.attach_call hn hdf fun w s₀ s₁ mg mb fa o pm cd doc a vs ns G Y ho hd hcd hmg hobj hints hlen hg => ?_
  have KX := hY w _ Y
  obtain ⟨fd, hb, hF⟩ := F w mg fa _ KX G.T.g hmg
  exact law_call KX G.T.g G.T.b G.T.builtins G.T.nolimit hg hobj hints (Nat.le_trans hlen hn2) hr hF hb (fun H hO hS => hsp w H a ns hlen hO hS) fun H e s' => hCX w H s₁ e s'
end L2
namespace L2
open PySem PySem.Spec PyProof.Rows
noncomputable def defArgs (s : Stmt) : Arguments := match s with
  | .FunctionDef _ a _ _ _ _ _ _ _ _ => a
  | _ => { posonlyargs := [], args := [], vararg := none, kwonlyargs := [], kw_defaults := [], kwarg := none, defaults := [] }
noncomputable def defBody (s : Stmt) : List Stmt := match s with
  | .FunctionDef _ _ b _ _ _ _ _ _ _ => b
  | _ => []
noncomputable def defScope (s : Stmt) : Scope := match s with
  | .FunctionDef _ _ _ _ _ _ sc _ _ _ => sc
  | _ => { kind := .function, names := [], isGenerator := false, isCoroutine := false }
noncomputable abbrev CX0 : CXT := fun _ _ _ _ _ _ => False
noncomputable abbrev E0 : XK := fun _ _ _ => False
theorem pass0 {X : Cx} : Passes CX0 X E0 := fun _ _ _ _ _ _ _ h => h.elim
structure Fun (K : PySem.W.Frag) (x qual : Str) (st : Stmt) (f : Addr) (fd : FuncData) : Prop where
  ex : ∃ (oc : Value) (od : Option Addr) (kV doc pm : Value) (an : Option Addr) (cdv ct : Value) (osl : Array (Option Value)),
    fd = PySem.W.fnOf x qual (defArgs st) (defBody st) (defScope st) .none kV doc pm an cdv ct ∧ K.lookup f = some ⟨oc, od, .func fd, osl⟩ ∧ PySem.W.codeIn K cdv qual = true
  kp : PySem.W.keepIn K (.ref f) = true
section
variable {P : Program} {w : World} {K : PySem.W.Frag} {mg : Str → Option Value} {base : Heap}
theorem Fun.ok {x qual : Str} {st : Stmt} {f : Addr} {fd : FuncData} {N ps : List Str} {k : Nat} {sp : Sp} (F : Fun K x qual st f fd) (S : FnScope N ps (defScope st)) (len : ∀ vs H Q E, sp vs H Q E → vs.length = ps.length)
    (hbody : ∀ (cdv : Value) (A : Around) (outer : List Env) (s : Shared) (H : Hp) (vs : List V) (Q : VK) (E : XK), Room k (A.deeper (envOfC qual (defScope st) s.heap.objs.size f cdv)) → sp vs H Q E →
      ∃ t, PSs (cxOf CX0 P w K mg base N qual (defScope st) f cdv A outer s H E).nox (defBody st) t ∧ t { nx := fun _ H' => Q .non H', rt := Q } (start N vs) H) : FnOk P w K mg base CX0 (k + 1) f fd ps sp := by
  obtain ⟨oc, od, kV, doc, pm, an, cdv, ct, osl, rfl, lk, hcd⟩ := F.ex
  refine fn_of lk hcd S len fun A outer s H vs Q E hr hsp => ?_
  obtain ⟨t, h, q⟩ := hbody cdv A outer s H vs Q E hr hsp
  exact ⟨t, h.nox, q⟩
theorem Fun.binds {x qual : Str} {st : Stmt} {f : Addr} {fd : FuncData} {ps : List Str} (F : Fun K x qual st f fd)
    (h : ∀ (kV doc pm : Value) (an : Option Addr) (cdv ct : Value) (us : List Value), us.length = ps.length → bindArgs (PySem.W.fnOf x qual (defArgs st) (defBody st) (defScope st) .none kV doc pm an cdv ct) ⟨us, []⟩ = pure (ps.zip us)) : Binds K fd ps [] := by
  obtain ⟨oc, od, kV, doc, pm, an, cdv, ct, osl, rfl, lk, hcd⟩ := F.ex
  exact .all (h kV doc pm an cdv ct)
theorem fun_mk {x qual : Str} {st : Stmt} {f : Addr} {oc : Value} {od an : Option Addr} {osl : Array (Option Value)} {kV doc pm cdv ct : Value} (l : K.lookup f = some ⟨oc, od, .func (PySem.W.fnOf x qual (defArgs st) (defBody st) (defScope st) .none kV doc pm an cdv ct), osl⟩)
    (c : PySem.W.codeIn K cdv qual = true) (k : PySem.W.keepIn K (.ref f) = true) : Fun K x qual st f (PySem.W.fnOf x qual (defArgs st) (defBody st) (defScope st) .none kV doc pm an cdv ct) := ⟨⟨oc, od, kV, doc, pm, an, cdv, ct, osl, rfl, l, c⟩, k⟩
end
section
variable {X : Cx}
theorem pv (i : Nat) {x : Str} {pos : Pos} (hN : X.N[i]? = some x := by rfl) (hv : Vis X.env.scope x := by first | exact Or.inl rfl | exact Or.inr (Or.inl rfl) | exact Or.inr (Or.inr rfl)) (hd : (x == ("__debug__" : Str)) = false := by decide)
    (hcd : (x == ("__classdict__" : Str)) = false := by decide) : PE X (.Name x pos) (tVar i) := pe_var hN hv hd hcd
end
theorem iteF {A B : Prop} (h : B) : if false = true then A else B := by
  rw [if_neg Bool.false_ne_true]
  exact h
theorem iteT {A B : Prop} (h : A) : if true = true then A else B := by
  rw [if_pos rfl]
  exact h
noncomputable def Same (H H' : Hp) : Prop := ∀ b o, H b = some o → H' b = some o
theorem Same.refl (H : Hp) : Same H H := fun _ _ h => h
theorem Same.trans {H H1 H2 : Hp} (a : Same H H1) (b : Same H1 H2) : Same H H2 := fun c o h => b c o (a c o h)
theorem Same.free {H H' : Hp} (e : Same H H') {l : Addr} (h : H' l = Option.none) : H l = Option.none := by
  cases q : H l with
  | none => rfl
  | some o =>
    rw [e l o q] at h
    cases h
theorem Same.seq {K : PySem.W.Frag} {H H' : Hp} {a : Addr} {xs : List V} (e : Same H H') (h : SqL K H a xs) : SqL K H' a xs := by
  rcases h with (h | ⟨o, h⟩) | h
  · exact .inl (.inl (e _ _ h))
  · exact .inl (.inr ⟨o, e _ _ h⟩)
  · exact .inr h
end L2
namespace Mi
open PySem L2
inductive D where
  | non | bl (b : Bool) | int (i : Int) | str (x : Str) | tup (xs : List D) | fn (x : Str) | dct (kvs : List (Str × Int))
  deriving Inhabited
mutual
noncomputable def Is (K : PySem.W.Frag) (H : Hp) : D → V → Prop
  | .non, v => v = .non
  | .bl b, v => v = .bl b
  | .int i, v => v = .int i
  | .str x, v => v = .str x
  | .tup ds, v => ∃ a vs, v = .ref a ∧ SqT K H a vs ∧ IsL K H ds vs
  | .fn x, v => ∃ a, v = .ref a ∧ PySem.W.nsIn K mainGlobals x = some (some (.ref a))
  | .dct kvs, v => ∃ a, v = .ref a ∧ H a = some (.dK (kvs.map fun p => (Sum.inr p.1, V.int p.2)))
noncomputable def IsL (K : PySem.W.Frag) (H : Hp) : List D → List V → Prop
  | [], vs => vs = []
  | d :: ds, vs => ∃ v r, vs = v :: r ∧ Is K H d v ∧ IsL K H ds r
end
structure Tk (H H' : Hp) : Prop where
  tup : ∀ a xs, H a = some (.tup xs) → H' a = some (.tup xs)
  frz : ∀ a o u, H a = some (.frz o u) → H' a = some (.frz o u)
  dk : ∀ a kvs, H a = some (.dK kvs) → H' a = some (.dK kvs)
theorem Tk.refl (H : Hp) : Tk H H := ⟨fun _ _ h => h, fun _ _ _ h => h, fun _ _ h => h⟩
theorem Tk.trans {H H1 H2 : Hp} (a : Tk H H1) (b : Tk H1 H2) : Tk H H2 := ⟨fun c x h => b.tup c x (a.tup c x h), fun c o u h => b.frz c o u (a.frz c o u h), fun c x h => b.dk c x (a.dk c x h)⟩
theorem Tk.same {H H' : Hp} (e : Same H H') : Tk H H' := ⟨fun a xs h => e a _ h, fun a o u h => e a _ h, fun a xs h => e a _ h⟩
variable {K : PySem.W.Frag} {H H' : Hp}
theorem SqT.tk {a : Addr} {xs : List V} (t : Tk H H') (h : SqT K H a xs) : SqT K H' a xs := by
  rcases h with (h | ⟨o, h⟩) | h
  · exact .inl (.inl (t.tup _ _ h))
  · exact .inl (.inr ⟨o, t.frz _ _ _ h⟩)
  · exact .inr h
mutual
theorem Is.tk (t : Tk H H') : ∀ {d : D} {v : V}, Is K H d v → Is K H' d v
  | .non, _, h => h
  | .bl _, _, h => h
  | .int _, _, h => h
  | .str _, _, h => h
  | .tup ds, v, h => by
    obtain ⟨a, vs, e, q, r⟩ := h
    exact ⟨a, vs, e, SqT.tk t q, IsL.tk t r⟩
  | .fn _, _, h => h
  | .dct _, _, h => by
    obtain ⟨a, e, q⟩ := h
    exact ⟨a, e, t.dk _ _ q⟩
theorem IsL.tk (t : Tk H H') : ∀ {ds : List D} {vs : List V}, IsL K H ds vs → IsL K H' ds vs
  | [], _, h => h
  | d :: ds, vs, h => by
    obtain ⟨v, r, e, q, l⟩ := h
    exact ⟨v, r, e, Is.tk t q, IsL.tk t l⟩
end
theorem IsL.length : ∀ {ds : List D} {vs : List V}, IsL K H ds vs → vs.length = ds.length
  | [], _, h => by subst h; rfl
  | d :: ds, vs, h => by
    obtain ⟨v, r, rfl, _, l⟩ := h
    rw [List.length_cons, List.length_cons, IsL.length l]
theorem IsL.nil : IsL K H [] [] := rfl
theorem IsL.cons {d : D} {ds : List D} {v : V} {vs : List V} (h : Is K H d v) (l : IsL K H ds vs) : IsL K H (d :: ds) (v :: vs) := ⟨v, vs, rfl, h, l⟩
theorem IsL.append : ∀ {ds : List D} {vs : List V} {es : List D} {us : List V}, IsL K H ds vs → IsL K H es us → IsL K H (ds ++ es) (vs ++ us)
  | [], _, _, _, h, q => by subst h; exact q
  | d :: ds, vs, _, _, h, q => by
    obtain ⟨v, r, rfl, h1, l⟩ := h
    exact IsL.cons h1 (IsL.append l q)
theorem IsL.get : ∀ {ds : List D} {vs : List V} {i : Nat} {d : D}, IsL K H ds vs → ds[i]? = some d → ∃ v, vs[i]? = some v ∧ Is K H d v
  | [], _, _, _, _, e => by simp at e
  | d :: ds, vs, 0, _, h, e => by
    obtain ⟨v, r, rfl, h1, l⟩ := h
    simp at e; subst e
    exact ⟨v, rfl, h1⟩
  | d :: ds, vs, i + 1, x, h, e => by
    obtain ⟨v, r, rfl, h1, l⟩ := h
    obtain ⟨u, q, z⟩ := IsL.get (i := i) l (by simpa using e)
    exact ⟨u, by simpa using q, z⟩
theorem IsL.set {d : D} {v : V} (h : Is K H d v) : ∀ {ds : List D} {vs : List V} (i : Nat), IsL K H ds vs → IsL K H (ds.set i d) (vs.set i v)
  | [], _, _, l => by subst l; rfl
  | _ :: _, _, 0, l => by
    obtain ⟨u, r, rfl, _, l⟩ := l
    exact IsL.cons h l
  | _ :: _, _, i + 1, l => by
    obtain ⟨u, r, rfl, h1, l⟩ := l
    exact IsL.cons h1 (IsL.set h i l)
theorem IsL.take : ∀ {ds : List D} {vs : List V} (n : Nat), IsL K H ds vs → IsL K H (ds.take n) (vs.take n)
  | _, _, 0, _ => by simp [IsL]
  | [], _, _ + 1, l => by subst l; simp [IsL]
  | _ :: _, _, n + 1, l => by
    obtain ⟨u, r, rfl, h1, l⟩ := l
    exact IsL.cons h1 (IsL.take n l)
theorem IsL.drop : ∀ {ds : List D} {vs : List V} (n : Nat), IsL K H ds vs → IsL K H (ds.drop n) (vs.drop n)
  | _, _, 0, l => l
  | [], _, _ + 1, l => by subst l; simp [IsL]
  | _ :: _, _, n + 1, l => by
    obtain ⟨u, r, rfl, h1, l⟩ := l
    exact IsL.drop n l
theorem IsL.eraseIdx : ∀ {ds : List D} {vs : List V} (n : Nat), IsL K H ds vs → IsL K H (ds.eraseIdx n) (vs.eraseIdx n)
  | [], _, _, l => by subst l; simp [IsL]
  | _ :: _, _, 0, l => by
    obtain ⟨u, r, rfl, h1, l⟩ := l
    exact l
  | _ :: _, _, n + 1, l => by
    obtain ⟨u, r, rfl, h1, l⟩ := l
    exact IsL.cons h1 (IsL.eraseIdx n l)
theorem IsL.reverse : ∀ {ds : List D} {vs : List V}, IsL K H ds vs → IsL K H ds.reverse vs.reverse
  | [], _, l => by subst l; rfl
  | _ :: _, _, l => by
    obtain ⟨u, r, rfl, h1, l⟩ := l
    rw [List.reverse_cons, List.reverse_cons]
    exact IsL.append (IsL.reverse l) (IsL.cons h1 IsL.nil)
theorem IsL.dropLast {ds : List D} {vs : List V} (l : IsL K H ds vs) : IsL K H ds.dropLast vs.dropLast := by
  rw [List.dropLast_eq_take, List.dropLast_eq_take, IsL.length l]
  exact l.take _
theorem IsL.ints {ns : List Int} : ∀ {vs : List V}, IsL K H (ns.map D.int) vs → vs = ns.map V.int := by
  induction ns with
  | nil => intro vs h; exact h
  | cons n r ih =>
    intro vs h
    obtain ⟨u, r, rfl, h1, l⟩ := h
    have e : u = .int n := h1
    subst e
    rw [List.map_cons, ih l]
theorem IsL.ofInts (ns : List Int) : IsL K H (ns.map D.int) (ns.map V.int) := by
  induction ns with
  | nil => exact rfl
  | cons n r ih => exact IsL.cons (show V.int n = .int n from rfl) ih
noncomputable def LsA (K : PySem.W.Frag) (H : Hp) (O : Addr → Prop) (a : Addr) (vs : List V) : Prop :=
  (H a = some (.lst vs) ∧ ¬ O a) ∨ (∃ o, H a = some (.frz o (.lst vs))) ∨
    ∃ (o : Obj) (its : Array Value) (n : Nat), K.lookup a = some o ∧ o.cls = .type "list" ∧ o.dict = none ∧ o.data = .seq its n ∧ its.size ≤ sizeLine ∧ Vals vs its.toList
theorem LsA.sq {O : Addr → Prop} {a : Addr} {vs : List V} (h : LsA K H O a vs) : SqL K H a vs := by
  rcases h with ⟨h, _⟩ | ⟨o, h⟩ | h
  · exact .inl (.inl h)
  · exact .inl (.inr ⟨o, h⟩)
  · exact .inr h
theorem LsA.weak {O O' : Addr → Prop} {a : Addr} {vs : List V} (h : LsA K H O a vs) (w : ∀ a, O' a → O a) : LsA K H O' a vs := by
  rcases h with ⟨h, n⟩ | h
  · exact .inl ⟨h, fun z => n (w _ z)⟩
  · exact .inr h
inductive Slot where
  | val (d : D) | fz (ds : List D) | fz2 (dss : List (List D)) | own (ds : List D) | own2 (dss : List (List D))
  deriving Inhabited
noncomputable def FzL (K : PySem.W.Frag) (H : Hp) (O : Addr → Prop) : List (List D) → List V → Prop
  | [], vs => vs = []
  | ds :: dss, vs => ∃ a us r, vs = .ref a :: r ∧ LsA K H O a us ∧ IsL K H ds us ∧ FzL K H O dss r
noncomputable def OwL (K : PySem.W.Frag) (H : Hp) : List (List D) → List Addr → Prop
  | [], qs => qs = []
  | ds :: dss, qs => ∃ q us r, qs = q :: r ∧ H q = some (.lst us) ∧ IsL K H ds us ∧ OwL K H dss r
noncomputable def SlotOk (K : PySem.W.Frag) (H : Hp) (O : Addr → Prop) : Slot → V → List Addr → Prop
  | .val d, v, f => Is K H d v ∧ f = []
  | .fz ds, v, f => (∃ a vs, v = .ref a ∧ LsA K H O a vs ∧ IsL K H ds vs) ∧ f = []
  | .fz2 dss, v, f => (∃ a vs, v = .ref a ∧ LsA K H O a vs ∧ FzL K H O dss vs) ∧ f = []
  | .own ds, v, f => ∃ p vs, v = .ref p ∧ H p = some (.lst vs) ∧ IsL K H ds vs ∧ f = [p]
  | .own2 dss, v, f => ∃ p qs, v = .ref p ∧ H p = some (.lst (qs.map .ref)) ∧ OwL K H dss qs ∧ f = p :: qs
noncomputable abbrev En := List (Option Slot)
structure Fr (H : Hp) (O : Addr → Prop) (fp : Nat → List Addr) (H' : Hp) (O' : Addr → Prop) (fp' : Nat → List Addr) : Prop where
  keep : ∀ b o, H b = some o → ¬ O b → H' b = some o
  new : ∀ b, O' b → O b ∨ H b = none
  flt : ∀ a, O a → (∀ i, a ∉ fp i) → H' a = H a ∧ O' a ∧ ∀ i, a ∉ fp' i
variable {O O' O1 O2 : Addr → Prop} {fp fp' fp1 fp2 : Nat → List Addr} {H1 H2 : Hp}
theorem Fr.refl : Fr H O fp H O fp := ⟨fun _ _ h _ => h, fun _ h => .inl h, fun _ h n => ⟨rfl, h, n⟩⟩
theorem Fr.trans (a : Fr H O fp H1 O1 fp1) (b : Fr H1 O1 fp1 H2 O2 fp2) : Fr H O fp H2 O2 fp2 := by
  refine ⟨fun c o h n => b.keep c o (a.keep c o h n) fun z => ?_, fun c z => ?_, fun c h n => ?_⟩
  · rcases a.new c z with q | q
    · exact n q
    · rw [h] at q; cases q
  · rcases b.new c z with q | q
    · exact a.new c q
    · cases e : H c with
      | none => exact .inr rfl
      | some o =>
        by_cases y : O c
        · exact .inl y
        · rw [a.keep c o e y] at q; cases q
  · obtain ⟨e1, o1, n1⟩ := a.flt c h n
    obtain ⟨e2, o2, n2⟩ := b.flt c o1 n1
    exact ⟨e2.trans e1, o2, n2⟩
theorem Fr.tk (F : Fr H O fp H' O' fp') (l : ∀ b, O b → ∃ vs, H b = some (.lst vs)) : Tk H H' := by
  refine ⟨fun a xs h => F.keep a _ h fun z => ?_, fun a o u h => F.keep a _ h fun z => ?_, fun a xs h => F.keep a _ h fun z => ?_⟩
  · obtain ⟨vs, e⟩ := l a z; rw [h] at e; cases e
  · obtain ⟨vs, e⟩ := l a z; rw [h] at e; cases e
  · obtain ⟨vs, e⟩ := l a z; rw [h] at e; cases e
theorem LsA.fr {a : Addr} {vs : List V} (F : Fr H O fp H' O' fp') (l : ∀ b, O b → ∃ vs, H b = some (.lst vs)) (h : LsA K H O a vs) : LsA K H' O' a vs := by
  rcases h with ⟨h, n⟩ | ⟨o, h⟩ | h
  · refine .inl ⟨F.keep a _ h n, fun z => ?_⟩
    rcases F.new a z with q | q
    · exact n q
    · rw [h] at q; cases q
  · exact .inr (.inl ⟨o, (F.tk l).frz _ _ _ h⟩)
  · exact .inr (.inr h)
theorem FzL.fr (F : Fr H O fp H' O' fp') (l : ∀ b, O b → ∃ vs, H b = some (.lst vs)) : ∀ {dss : List (List D)} {vs : List V}, FzL K H O dss vs → FzL K H' O' dss vs
  | [], _, h => h
  | ds :: dss, vs, h => by
    obtain ⟨a, us, r, e, h1, h2, h3⟩ := h
    exact ⟨a, us, r, e, LsA.fr F l h1, h2.tk (F.tk l), FzL.fr F l h3⟩
theorem FzL.weak (w : ∀ a, O' a → O a) : ∀ {dss : List (List D)} {vs : List V}, FzL K H O dss vs → FzL K H O' dss vs
  | [], _, h => h
  | ds :: dss, vs, h => by
    obtain ⟨a, us, r, e, h1, h2, h3⟩ := h
    exact ⟨a, us, r, e, h1.weak w, h2, FzL.weak w h3⟩
theorem OwL.eq (t : Tk H H') : ∀ {dss : List (List D)} {qs : List Addr}, OwL K H dss qs → (∀ a ∈ qs, H' a = H a) → OwL K H' dss qs
  | [], _, h, _ => h
  | ds :: dss, qs, h, e => by
    obtain ⟨q, us, r, rfl, h1, h2, h3⟩ := h
    exact ⟨q, us, r, rfl, (e q (by simp)).trans h1, h2.tk t, OwL.eq t h3 fun a ha => e a (by simp [ha])⟩
theorem SlotOk.fr (F : Fr H O fp H' O' fp') (l : ∀ b, O b → ∃ vs, H b = some (.lst vs)) {s : Slot} {v : V} {f : List Addr} (h : SlotOk K H O s v f) (hf : ∀ a ∈ f, O a ∧ ∀ i, a ∉ fp i) :
    SlotOk K H' O' s v f := by
  have t := F.tk l
  cases s with
  | val d => exact ⟨h.1.tk t, h.2⟩
  | fz ds =>
    obtain ⟨⟨a, vs, e, h1, h2⟩, h3⟩ := h
    exact ⟨⟨a, vs, e, LsA.fr F l h1, h2.tk t⟩, h3⟩
  | fz2 dss =>
    obtain ⟨⟨a, vs, e, h1, h2⟩, h3⟩ := h
    exact ⟨⟨a, vs, e, LsA.fr F l h1, FzL.fr F l h2⟩, h3⟩
  | own ds =>
    obtain ⟨p, vs, e, h1, h2, rfl⟩ := h
    obtain ⟨o1, o2⟩ := hf p (by simp)
    exact ⟨p, vs, e, (F.flt p o1 o2).1.trans h1, h2.tk t, rfl⟩
  | own2 dss =>
    obtain ⟨p, qs, e, h1, h2, rfl⟩ := h
    have k : ∀ a ∈ p :: qs, H' a = H a := fun a ha => (F.flt a (hf a ha).1 (hf a ha).2).1
    exact ⟨p, qs, e, (k p (by simp)).trans h1, h2.eq t fun a ha => k a (by simp [ha]), rfl⟩
structure Rel (K : PySem.W.Frag) (B : Hp) (ρ : En) (σ : St) (H : Hp) (O : Addr → Prop) (fp : Nat → List Addr) : Prop where
  len : ρ.length = σ.length
  slot : ∀ i s, ρ[i]? = some (some s) → ∃ v, σ[i]? = some (some v) ∧ SlotOk K H O s v (fp i)
  non : ∀ i, (∀ s, ρ[i]? ≠ some (some s)) → fp i = []
  dis : ∀ i j a, a ∈ fp i → a ∈ fp j → i = j
  nd : ∀ i, (fp i).Nodup
  sub : ∀ i a, a ∈ fp i → O a
  lst : ∀ b, O b → ∃ vs, H b = some (.lst vs)
  new : ∀ b, O b → B b = none
  keep : ∀ b o, B b = some o → H b = some o
inductive R where
  | of (s : Slot) | bor (i : Nat)
  deriving Inhabited
noncomputable def fl (O : Addr → Prop) (fp : Nat → List Addr) : Addr → Prop := fun a => O a ∧ ∀ i, a ∉ fp i
noncomputable def ResOk (K : PySem.W.Frag) (H : Hp) (O : Addr → Prop) (fp : Nat → List Addr) (σ : St) (Z : Addr → Prop) : R → V → Prop
  | .of s, v => ∃ f, SlotOk K H O s v f ∧ f.Nodup ∧ ∀ a ∈ f, (O a ∧ ∀ i, a ∉ fp i) ∧ ¬ Z a
  | .bor i, v => σ[i]? = some (some v)
variable {B : Hp} {ρ ρ' : En} {σ : St}
theorem ResOk.fr (F : Fr H O fp H' O' fp') (l : ∀ b, O b → ∃ vs, H b = some (.lst vs)) {r : R} {v : V} {Z : Addr → Prop} (h : ResOk K H O fp σ Z r v) : ResOk K H' O' fp' σ Z r v := by
  cases r with
  | of s =>
    obtain ⟨f, h1, nd, h2⟩ := h
    exact ⟨f, h1.fr F l fun a ha => (h2 a ha).1, nd, fun a ha => ⟨(F.flt a (h2 a ha).1.1 (h2 a ha).1.2).2, (h2 a ha).2⟩⟩
  | bor i => exact h
theorem ResOk.back {r : R} {v : V} {Z Z' : Addr → Prop} (h : ResOk K H O fp σ Z r v) (w : ∀ a, Z' a → Z a) : ResOk K H O fp σ Z' r v := by
  cases r with
  | of s =>
    obtain ⟨f, h1, nd, h2⟩ := h
    exact ⟨f, h1, nd, fun a ha => ⟨(h2 a ha).1, fun z => (h2 a ha).2 (w a z)⟩⟩
  | bor i => exact h
theorem Fr.fl (F : Fr H O fp H' O' fp') : ∀ a, fl O fp a → Mi.fl O' fp' a := fun a z => (F.flt a z.1 z.2).2
theorem Fr.set (F : Fr H O fp H' O' fp') {f : List Addr} (i : Nat) (h : ∀ a ∈ f, ¬ Mi.fl O fp a) : Fr H O fp H' O' (fun j => if j = i then f else fp' j) :=
  ⟨F.keep, F.new, fun a z n => ⟨(F.flt a z n).1, (F.flt a z n).2.1, fun j => by
    by_cases e : j = i
    · rw [if_pos e]; exact fun q => h a q ⟨z, n⟩
    · rw [if_neg e]; exact (F.flt a z n).2.2 j⟩⟩
theorem SlotOk.grow (e : Same H H') {s : Slot} {v : V} {f : List Addr} (h : SlotOk K H O s v f) : SlotOk K H' O s v f := by
  have t := Tk.same e
  have ls : ∀ {a : Addr} {vs : List V}, LsA K H O a vs → LsA K H' O a vs := fun {a vs} h => by
    rcases h with ⟨h, n⟩ | ⟨o, h⟩ | h
    · exact .inl ⟨e _ _ h, n⟩
    · exact .inr (.inl ⟨o, e _ _ h⟩)
    · exact .inr (.inr h)
  cases s with
  | val d => exact ⟨h.1.tk t, h.2⟩
  | fz ds =>
    obtain ⟨⟨a, vs, e, h1, h2⟩, h3⟩ := h
    exact ⟨⟨a, vs, e, ls h1, h2.tk t⟩, h3⟩
  | fz2 dss =>
    obtain ⟨⟨a, vs, z, h1, h2⟩, h3⟩ := h
    refine ⟨⟨a, vs, z, ls h1, ?_⟩, h3⟩
    have go : ∀ {dss : List (List D)} {vs : List V}, FzL K H O dss vs → FzL K H' O dss vs := by
      intro dss
      induction dss with
      | nil => intro vs h; exact h
      | cons ds dss ih =>
        intro vs h
        obtain ⟨a, us, r, e, h1, h2, h3⟩ := h
        exact ⟨a, us, r, e, ls h1, h2.tk t, ih h3⟩
    exact go h2
  | own ds =>
    obtain ⟨p, vs, z, h1, h2, rfl⟩ := h
    exact ⟨p, vs, z, e _ _ h1, h2.tk t, rfl⟩
  | own2 dss =>
    obtain ⟨p, qs, z, h1, h2, rfl⟩ := h
    refine ⟨p, qs, z, e _ _ h1, ?_, rfl⟩
    have go : ∀ {dss : List (List D)} {qs : List Addr}, OwL K H dss qs → OwL K H' dss qs := by
      intro dss
      induction dss with
      | nil => intro vs h; exact h
      | cons ds dss ih =>
        intro vs h
        obtain ⟨a, us, r, z, h1, h2, h3⟩ := h
        exact ⟨a, us, r, z, e _ _ h1, h2.tk t, ih h3⟩
    exact go h2
theorem Rel.grow (r : Rel K B ρ σ H O fp) (e : Same H H') : Rel K B ρ σ H' O fp :=
  ⟨r.len, fun i s h => let ⟨v, a, b⟩ := r.slot i s h; ⟨v, a, b.grow e⟩, r.non, r.dis, r.nd, r.sub, fun b h => let ⟨vs, z⟩ := r.lst b h; ⟨vs, e _ _ z⟩, r.new, fun b o h => e _ _ (r.keep b o h)⟩
theorem Fr.grow (r : Rel K B ρ σ H O fp) (e : Same H H') : Fr H O fp H' O fp :=
  ⟨fun b o h _ => e _ _ h, fun _ h => .inl h, fun a h n => ⟨by obtain ⟨vs, z⟩ := r.lst a h; rw [z, e _ _ z], h, n⟩⟩
theorem SlotOk.more {s : Slot} {v : V} {f : List Addr} {N : Addr → Prop} (h : SlotOk K H O s v f) (n : ∀ a, N a → H a = none ∨ O a) : SlotOk K H (fun a => O a ∨ N a) s v f := by
  have ls : ∀ {a : Addr} {vs : List V}, LsA K H O a vs → LsA K H (fun a => O a ∨ N a) a vs := fun {a vs} h => by
    rcases h with ⟨h, m⟩ | h
    · refine .inl ⟨h, fun z => ?_⟩
      rcases z with z | z
      · exact m z
      · rcases n a z with q | q
        · rw [h] at q; cases q
        · exact m q
    · exact .inr h
  cases s with
  | val d => exact h
  | fz ds =>
    obtain ⟨⟨a, vs, e, h1, h2⟩, h3⟩ := h
    exact ⟨⟨a, vs, e, ls h1, h2⟩, h3⟩
  | fz2 dss =>
    obtain ⟨⟨a, vs, z, h1, h2⟩, h3⟩ := h
    refine ⟨⟨a, vs, z, ls h1, ?_⟩, h3⟩
    have go : ∀ {dss : List (List D)} {vs : List V}, FzL K H O dss vs → FzL K H (fun a => O a ∨ N a) dss vs := by
      intro dss
      induction dss with
      | nil => intro vs h; exact h
      | cons ds dss ih =>
        intro vs h
        obtain ⟨a, us, r, e, h1, h2, h3⟩ := h
        exact ⟨a, us, r, e, ls h1, h2, ih h3⟩
    exact go h2
  | own ds => exact h
  | own2 dss => exact h
theorem Rel.take (r : Rel K B ρ σ H O fp) (e : Same H H') {N : Addr → Prop} (n : ∀ a, N a → H a = none) (l : ∀ a, N a → ∃ vs, H' a = some (.lst vs)) : Rel K B ρ σ H' (fun a => O a ∨ N a) fp := by
  refine ⟨r.len, fun i s h => ?_, r.non, r.dis, r.nd, fun i a h => .inl (r.sub i a h), fun b h => ?_, fun b h => ?_, fun b o h => e _ _ (r.keep b o h)⟩
  · obtain ⟨v, a, b⟩ := r.slot i s h
    exact ⟨v, a, (b.more (N := N) fun a z => .inl (n a z)).grow e⟩
  · rcases h with h | h
    · obtain ⟨vs, z⟩ := r.lst b h
      exact ⟨vs, e _ _ z⟩
    · exact l b h
  · rcases h with h | h
    · exact r.new b h
    · cases q : B b with
      | none => rfl
      | some o =>
        have z := r.keep b o q
        rw [n b h] at z; cases z
theorem Fr.take (r : Rel K B ρ σ H O fp) (e : Same H H') {N : Addr → Prop} (n : ∀ a, N a → H a = none) : Fr H O fp H' (fun a => O a ∨ N a) fp :=
  ⟨fun b o h _ => e _ _ h, fun b h => h.imp id (n b), fun a h m => ⟨by obtain ⟨vs, z⟩ := r.lst a h; rw [z, e _ _ z], .inl h, m⟩⟩
theorem Rel.set (r : Rel K B ρ σ H O fp) {i : Nat} {s : Slot} {v : V} {f : List Addr} (hs : SlotOk K H O s v f) (nd : f.Nodup) (hf : ∀ a ∈ f, O a ∧ ∀ j, a ∉ fp j) (hi : i < ρ.length) :
    Rel K B (ρ.set i (some s)) (σ.set i (some v)) H O (fun j => if j = i then f else fp j) := by
  refine ⟨by simpa using r.len, fun j t h => ?_, fun j h => ?_, fun j k a h1 h2 => ?_, fun j => ?_, fun j a h => ?_, r.lst, r.new, r.keep⟩
  · by_cases e : j = i
    · subst e
      rw [List.getElem?_set_self hi] at h
      cases h
      refine ⟨v, List.getElem?_set_self (by rw [← r.len]; exact hi), ?_⟩
      rw [if_pos rfl]; exact hs
    · rw [List.getElem?_set_ne (Ne.symm e)] at h
      obtain ⟨u, q, z⟩ := r.slot j t h
      refine ⟨u, by rw [List.getElem?_set_ne (Ne.symm e)]; exact q, ?_⟩
      rw [if_neg e]; exact z
  · by_cases e : j = i
    · subst e
      exact absurd (List.getElem?_set_self hi) (h s)
    · rw [if_neg e]
      refine r.non j fun t z => h t ?_
      rw [List.getElem?_set_ne (Ne.symm e)]; exact z
  · skip
    by_cases e : j = i
    · by_cases e' : k = i
      · rw [e, e']
      · rw [if_pos e] at h1; rw [if_neg e'] at h2
        exact absurd h2 ((hf a h1).2 k)
    · by_cases e' : k = i
      · rw [if_neg e] at h1; rw [if_pos e'] at h2
        exact absurd h1 ((hf a h2).2 j)
      · rw [if_neg e] at h1; rw [if_neg e'] at h2
        exact r.dis j k a h1 h2
  · by_cases e : j = i
    · rw [if_pos e]; exact nd
    · rw [if_neg e]; exact r.nd j
  · skip
    by_cases e : j = i
    · rw [if_pos e] at h; exact (hf a h).1
    · rw [if_neg e] at h; exact r.sub j a h
theorem Rel.drop (r : Rel K B ρ σ H O fp) (i : Nat) : Rel K B (ρ.set i none) σ H O (fun j => if j = i then [] else fp j) := by
  refine ⟨by simpa using r.len, fun j t h => ?_, fun j h => ?_, fun j k a h1 h2 => ?_, fun j => ?_, fun j a h => ?_, r.lst, r.new, r.keep⟩
  · by_cases e : j = i
    · subst e
      rw [List.getElem?_set] at h
      rw [if_pos rfl] at h
      split at h <;> cases h
    · rw [List.getElem?_set_ne (Ne.symm e)] at h
      obtain ⟨u, q, z⟩ := r.slot j t h
      refine ⟨u, q, ?_⟩
      rw [if_neg e]; exact z
  · by_cases e : j = i
    · rw [if_pos e]
    · rw [if_neg e]
      refine r.non j fun t z => h t ?_
      rw [List.getElem?_set_ne (Ne.symm e)]; exact z
  · skip
    by_cases e : j = i
    · rw [if_pos e] at h1; simp at h1
    · by_cases e' : k = i
      · rw [if_pos e'] at h2; simp at h2
      · rw [if_neg e] at h1; rw [if_neg e'] at h2
        exact r.dis j k a h1 h2
  · by_cases e : j = i
    · rw [if_pos e]; exact List.nodup_nil
    · rw [if_neg e]; exact r.nd j
  · skip
    by_cases e : j = i
    · rw [if_pos e] at h; simp at h
    · rw [if_neg e] at h; exact r.sub j a h
end Mi
namespace Mi
open PySem L2
variable {K : PySem.W.Frag} {H H' : Hp} {O O' : Addr → Prop} {fp fp' : Nat → List Addr} {B : Hp} {ρ ρ' : En} {σ : St}
theorem tk_upd {p : Addr} {vs us : List V} (h : H p = some (.lst vs)) : Tk H (upd H p (.lst us)) := by
  refine ⟨fun a xs q => ?_, fun a o u q => ?_, fun a xs q => ?_⟩
  · rw [upd_ne (ne_of q h (by intro z; cases z))]; exact q
  · rw [upd_ne (ne_of q h (by intro z; cases z))]; exact q
  · rw [upd_ne (ne_of q h (by intro z; cases z))]; exact q
theorem SlotOk.upd {s : Slot} {v : V} {f : List Addr} {p : Addr} {vs us : List V} (h : SlotOk K H O s v f) (hp : H p = some (.lst vs)) (op : O p) (nf : p ∉ f) : SlotOk K (upd H p (.lst us)) O s v f := by
  have t := tk_upd (us := us) hp
  have ls : ∀ {a : Addr} {ws : List V}, LsA K H O a ws → LsA K (L2.upd H p (.lst us)) O a ws := fun {a ws} h => by
    rcases h with ⟨h, n⟩ | ⟨o, h⟩ | h
    · have ne : a ≠ p := fun z => n (by rw [z]; exact op)
      exact .inl ⟨by rw [upd_ne ne]; exact h, n⟩
    · exact .inr (.inl ⟨o, t.frz _ _ _ h⟩)
    · exact .inr (.inr h)
  cases s with
  | val d => exact ⟨h.1.tk t, h.2⟩
  | fz ds =>
    obtain ⟨⟨a, vs, e, h1, h2⟩, h3⟩ := h
    exact ⟨⟨a, vs, e, ls h1, h2.tk t⟩, h3⟩
  | fz2 dss =>
    obtain ⟨⟨a, vs, z, h1, h2⟩, h3⟩ := h
    refine ⟨⟨a, vs, z, ls h1, ?_⟩, h3⟩
    have go : ∀ {dss : List (List D)} {vs : List V}, FzL K H O dss vs → FzL K (L2.upd H p (.lst us)) O dss vs := by
      intro dss
      induction dss with
      | nil => intro vs h; exact h
      | cons ds dss ih =>
        intro vs h
        obtain ⟨a, us, r, e, h1, h2, h3⟩ := h
        exact ⟨a, us, r, e, ls h1, h2.tk t, ih h3⟩
    exact go h2
  | own ds =>
    obtain ⟨q, ws, z, h1, h2, rfl⟩ := h
    exact ⟨q, ws, z, by rw [upd_ne (fun z => nf (by simp [z]))]; exact h1, h2.tk t, rfl⟩
  | own2 dss =>
    obtain ⟨q, qs, z, h1, h2, rfl⟩ := h
    exact ⟨q, qs, z, by rw [upd_ne (fun z => nf (by simp [z]))]; exact h1, h2.eq t fun a ha => upd_ne (fun z => nf (by simp [← z, ha])), rfl⟩
theorem Fr.upd {p : Addr} {us : List V} {i : Nat} (op : O p) (hi : p ∈ fp i) : Fr H O fp (upd H p (.lst us)) O fp :=
  ⟨fun b o h n => by rw [upd_ne (fun z => n (by rw [z]; exact op))]; exact h, fun _ h => .inl h, fun a h n => ⟨upd_ne (fun z => n i (by rw [z]; exact hi)), h, n⟩⟩
theorem Rel.upd (r : Rel K B ρ σ H O fp) {i : Nat} {ds ds' : List D} {p : Addr} {us : List V} (hs : ρ[i]? = some (some (.own ds))) (hv : σ[i]? = some (some (.ref p))) (hl : IsL K H ds' us) :
    Rel K B (ρ.set i (some (.own ds'))) σ (L2.upd H p (.lst us)) O fp ∧ Fr H O fp (L2.upd H p (.lst us)) O fp := by
  obtain ⟨v, e, q, vs, e2, h1, h2, ef⟩ := r.slot i _ hs
  rw [hv] at e; cases e; cases e2
  have pin : p ∈ fp i := by rw [ef]; simp
  have op : O p := r.sub i p pin
  refine ⟨⟨by simpa using r.len, fun j t h => ?_, fun j h => ?_, r.dis, r.nd, r.sub, fun b h => ?_, r.new, fun b o h => ?_⟩, Fr.upd op pin⟩
  · by_cases e : j = i
    · subst e
      rw [List.getElem?_set_self (by exact (List.getElem?_eq_some_iff.mp hs).1)] at h
      cases h
      exact ⟨_, hv, p, us, rfl, upd_same, hl.tk (tk_upd h1), ef⟩
    · rw [List.getElem?_set_ne (Ne.symm e)] at h
      obtain ⟨u, q, z⟩ := r.slot j t h
      exact ⟨u, q, z.upd h1 op fun w => e (r.dis j i p w pin)⟩
  · refine r.non j fun t z => ?_
    by_cases e : j = i
    · subst e
      exact h _ (List.getElem?_set_self (by exact (List.getElem?_eq_some_iff.mp hs).1))
    · exact h t (by rw [List.getElem?_set_ne (Ne.symm e)]; exact z)
  · by_cases e : b = p
    · exact ⟨us, by rw [e]; exact upd_same⟩
    · obtain ⟨ws, z⟩ := r.lst b h
      exact ⟨ws, by rw [upd_ne e]; exact z⟩
  · rw [upd_ne (fun z => by have w := r.new p op; rw [← z, h] at w; cases w)]
    exact r.keep b o h
noncomputable def dr (ρ : En) : R → Option Slot
  | .of s => some s
  | .bor i => (ρ[i]?).join
theorem Rel.dr (r : Rel K B ρ σ H O fp) {x : R} {v : V} {s : Slot} {Z : Addr → Prop} (h : ResOk K H O fp σ Z x v) (e : dr ρ x = some s) : ∃ f, SlotOk K H O s v f := by
  cases x with
  | of t =>
    obtain ⟨f, h1, _⟩ := h
    cases e
    exact ⟨f, h1⟩
  | bor i =>
    have e : (ρ[i]?).join = some s := e
    have e' : ρ[i]? = some (some s) := by
      cases q : ρ[i]? with
      | none => rw [q] at e; cases e
      | some o =>
        rw [q] at e
        cases o with
        | none => cases e
        | some t => cases e; rfl
    obtain ⟨u, h1, h2⟩ := r.slot i s e'
    have h : σ[i]? = some (some v) := h
    rw [h] at h1; cases h1
    exact ⟨_, h2⟩
noncomputable abbrev O0 : Addr → Prop := fun _ => False
noncomputable def rdS : Slot → Slot
  | .own ds => .fz ds
  | .own2 dss => .fz2 dss
  | s => s
theorem FzL.ofOw : ∀ {dss : List (List D)} {qs : List Addr}, OwL K H dss qs → FzL K H O0 dss (qs.map .ref)
  | [], _, h => by
    have h' : _ = [] := h
    subst h'; exact rfl
  | ds :: dss, qs, h => by
    obtain ⟨q, us, r, rfl, h1, h2, h3⟩ := h
    exact ⟨q, us, _, rfl, .inl ⟨h1, fun z => z⟩, h2, FzL.ofOw h3⟩
noncomputable def RdOk (K : PySem.W.Frag) (H : Hp) (s : Slot) (v : V) : Prop := SlotOk K H O0 s v []
theorem SlotOk.rd {s : Slot} {v : V} {f : List Addr} (h : SlotOk K H O s v f) : RdOk K H (rdS s) v := by
  cases s with
  | val d => exact ⟨h.1, rfl⟩
  | fz ds =>
    obtain ⟨⟨a, vs, e, h1, h2⟩, h3⟩ := h
    exact ⟨⟨a, vs, e, h1.weak fun _ z => z.elim, h2⟩, rfl⟩
  | fz2 dss =>
    obtain ⟨⟨a, vs, e, h1, h2⟩, h3⟩ := h
    exact ⟨⟨a, vs, e, h1.weak fun _ z => z.elim, FzL.weak (fun _ z => z.elim) h2⟩, rfl⟩
  | own ds =>
    obtain ⟨p, vs, e, h1, h2, _⟩ := h
    exact ⟨⟨p, vs, e, .inl ⟨h1, fun z => z⟩, h2⟩, rfl⟩
  | own2 dss =>
    obtain ⟨p, qs, e, h1, h2, _⟩ := h
    exact ⟨⟨p, _, e, .inl ⟨h1, fun z => z⟩, FzL.ofOw h2⟩, rfl⟩
noncomputable def RdL (K : PySem.W.Frag) (H : Hp) : List Slot → List V → Prop
  | [], vs => vs = []
  | s :: ss, vs => ∃ v r, vs = v :: r ∧ RdOk K H s v ∧ RdL K H ss r
theorem RdL.length : ∀ {ss : List Slot} {vs : List V}, RdL K H ss vs → vs.length = ss.length
  | [], _, h => by have h' : _ = [] := h; subst h'; rfl
  | s :: ss, vs, h => by
    obtain ⟨v, r, rfl, _, l⟩ := h
    rw [List.length_cons, List.length_cons, RdL.length l]
noncomputable def Good (K : PySem.W.Frag) (H : Hp) (s : Slot) (Q : VK) : Prop :=
  match s with
  | .val d => ∀ v H', Same H H' → Is K H' d v → Q v H'
  | .own ds => ∀ p vs H', Same H H' → H p = none → H' p = some (.lst vs) → IsL K H' ds vs → Q (.ref p) H'
  | .own2 dss => ∀ p qs H', Same H H' → (∀ a ∈ p :: qs, H a = none) → (p :: qs).Nodup → H' p = some (.lst (qs.map .ref)) → OwL K H' dss qs → Q (.ref p) H'
  | _ => False
noncomputable def isNew : Slot → Prop
  | .fz _ => False
  | .fz2 _ => False
  | _ => True
theorem OwL.lst : ∀ {dss : List (List D)} {qs : List Addr}, OwL K H dss qs → ∀ a ∈ qs, ∃ vs, H a = some (.lst vs)
  | [], _, h, a, ha => by have h' : _ = [] := h; subst h'; simp at ha
  | ds :: dss, qs, h, a, ha => by
    obtain ⟨q, us, r, rfl, h1, h2, h3⟩ := h
    rcases List.mem_cons.mp ha with z | z
    · exact ⟨us, by rw [z]; exact h1⟩
    · exact OwL.lst h3 a z
theorem Rel.good (r : Rel K B ρ σ H O fp) {s : Slot} {Q : VK} (k : ∀ v H' O', Rel K B ρ σ H' O' fp → ResOk K H' O' fp σ (fl O fp) (.of s) v → Fr H O fp H' O' fp → Q v H') (hs : isNew s) : Good K H s Q := by
  have nof : ∀ {a : Addr}, H a = none → ∀ i, a ∉ fp i := fun {a} e i z => by
    obtain ⟨vs, q⟩ := r.lst a (r.sub i a z)
    rw [e] at q; cases q
  have noO : ∀ {a : Addr}, H a = none → ¬ O a := fun {a} e z => by
    obtain ⟨vs, q⟩ := r.lst a z
    rw [e] at q; cases q
  cases s with
  | val d => exact fun v H' e h => k v H' O (r.grow e) ⟨[], ⟨h, rfl⟩, List.nodup_nil, fun a z => by simp at z⟩ (Fr.grow r e)
  | fz ds => exact hs.elim
  | fz2 dss => exact hs.elim
  | own ds =>
    intro p vs H' e hn hp hl
    have n1 : ∀ a, a = p → H a = none := fun a z => by rw [z]; exact hn
    refine k (.ref p) H' (fun a => O a ∨ a = p) (r.take e n1 fun a z => ⟨vs, by rw [z]; exact hp⟩) ⟨[p], ⟨p, vs, rfl, hp, hl, rfl⟩, by simp, fun a z => ?_⟩ (Fr.take r e n1)
    have z' : a = p := by simpa using z
    subst z'
    exact ⟨⟨.inr rfl, nof hn⟩, fun z => noO hn z.1⟩
  | own2 dss =>
    intro p qs H' e hn nd hp hl
    refine k (.ref p) H' (fun a => O a ∨ a ∈ p :: qs) (r.take e hn fun a z => ?_) ⟨p :: qs, ⟨p, qs, rfl, hp, hl, rfl⟩, nd, fun a z => ⟨⟨.inr z, nof (hn a z)⟩, fun q => noO (hn a z) q.1⟩⟩ (Fr.take r e hn)
    rcases List.mem_cons.mp z with z | z
    · exact ⟨_, by rw [z]; exact hp⟩
    · exact hl.lst a z
noncomputable abbrev M (α : Type) := En → Option (α × En)
noncomputable def mRd (i : Nat) : M R := fun ρ => (ρ[i]?).join.bind fun s => match s with
  | .own _ => some (.bor i, ρ)
  | .own2 _ => some (.bor i, ρ)
  | s => some (.of s, ρ)
noncomputable def mVal (i : Nat) : M R := fun ρ => (ρ[i]?).join.bind fun s => match s with
  | .own ds => some (.of (.own ds), ρ.set i none)
  | .own2 dss => some (.of (.own2 dss), ρ.set i none)
  | s => some (.of s, ρ)
noncomputable def mC (d : D) : M R := fun ρ => some (.of (.val d), ρ)
noncomputable def mNil : M (List R) := fun ρ => some ([], ρ)
noncomputable def mCons (a : M R) (l : M (List R)) : M (List R) := fun ρ => (a ρ).bind fun x => (l x.2).bind fun y => some (x.1 :: y.1, y.2)
noncomputable def drs (ρ : En) : List R → Option (List Slot)
  | [] => some []
  | r :: rs => (dr ρ r).bind fun s => (drs ρ rs).bind fun ss => some (rdS s :: ss)
end Mi
namespace Mi
open PySem L2
variable {K : PySem.W.Frag} {H H' : Hp} {O O' : Addr → Prop} {fp fp' : Nat → List Addr} {B : Hp} {ρ ρ' : En} {σ : St}
noncomputable def tQ (K : PySem.W.Frag) (f : M R) : TE := fun σ H Q => ∃ B ρ O fp r ρ', Rel K B ρ σ H O fp ∧ f ρ = some (r, ρ') ∧
  ∀ v H' O' fp', Rel K B ρ' σ H' O' fp' → ResOk K H' O' fp' σ (fl O fp) r v → Fr H O fp H' O' fp' → Q v H'
noncomputable def ResL (K : PySem.W.Frag) (H : Hp) (O : Addr → Prop) (fp : Nat → List Addr) (σ : St) (Z : Addr → Prop) : List R → List V → Prop
  | [], vs => vs = []
  | r :: rs, vs => ∃ v us, vs = v :: us ∧ ResOk K H O fp σ Z r v ∧ ResL K H O fp σ Z rs us
theorem ResL.back {Z Z' : Addr → Prop} (w : ∀ a, Z' a → Z a) : ∀ {rs : List R} {vs : List V}, ResL K H O fp σ Z rs vs → ResL K H O fp σ Z' rs vs
  | [], _, h => h
  | _ :: _, _, h => by
    obtain ⟨v, us, e, h1, h2⟩ := h
    exact ⟨v, us, e, h1.back w, ResL.back w h2⟩
noncomputable def tQL (K : PySem.W.Frag) (f : M (List R)) : TA := fun σ H Q => ∃ B ρ O fp rs ρ', Rel K B ρ σ H O fp ∧ f ρ = some (rs, ρ') ∧
  ∀ vs H' O' fp', Rel K B ρ' σ H' O' fp' → ResL K H' O' fp' σ (fl O fp) rs vs → Fr H O fp H' O' fp' → Q vs H'
noncomputable def tQT (K : PySem.W.Frag) (f : M Bool) : TT := fun σ H Q => ∃ B ρ O fp b ρ', Rel K B ρ σ H O fp ∧ f ρ = some (b, ρ') ∧
  ∀ H' O' fp', Rel K B ρ' σ H' O' fp' → Fr H O fp H' O' fp' → Q b H'
noncomputable abbrev QE (X : Cx) (e : Expr) (f : M R) : Prop := PE X e (tQ X.K f)
noncomputable abbrev QA (X : Cx) (es : List Expr) (f : M (List R)) : Prop := PA X es (tQL X.K f)
noncomputable abbrev QT (X : Cx) (e : Expr) (f : M Bool) : Prop := PT X e (tQT X.K f)
theorem ResL.rd (r : Rel K B ρ σ H O fp) : ∀ {rs : List R} {vs : List V} {ss : List Slot} {Z : Addr → Prop}, ResL K H O fp σ Z rs vs → drs ρ rs = some ss → RdL K H ss vs
  | [], vs, ss, _, h, e => by
    have h' : vs = [] := h
    have e' : some [] = some ss := e
    cases e'; subst h'
    exact rfl
  | x :: rs, vs, ss, _, h, e => by
    obtain ⟨v, us, rfl, h1, h2⟩ := h
    have e' : ((dr ρ x).bind fun s => (drs ρ rs).bind fun ss => some (rdS s :: ss)) = some ss := e
    cases q : dr ρ x with
    | none => rw [q] at e'; cases e'
    | some s =>
      rw [q] at e'
      cases q2 : drs ρ rs with
      | none => rw [q2] at e'; cases e'
      | some ts =>
        rw [q2] at e'
        cases e'
        obtain ⟨f, hs⟩ := r.dr h1 q
        exact ⟨v, us, rfl, hs.rd, ResL.rd r h2 q2⟩
noncomputable def fresh : Slot → Option Slot
  | .fz _ => none
  | .fz2 _ => none
  | s => some s
theorem fresh_of {s t : Slot} (h : fresh s = some t) : t = s ∧ isNew s := by
  cases s <;> first | (cases h; exact ⟨rfl, trivial⟩) | cases h
section
variable {X : Cx} {e a b : Expr} {es : List Expr} {pos : Pos}
theorem _root_.L2.PE.imp {t t' : TE} (h : PE X e t) (w : ∀ σ H Q, t' σ H Q → t σ H Q) : PE X e t' := fun pins s σ H Q I q => h pins s σ H Q I (w σ H Q q)
theorem _root_.L2.PA.imp {t t' : TA} (h : PA X es t) (w : ∀ σ H Q, t' σ H Q → t σ H Q) : PA X es t' := fun pos pins s σ H Q I q => h pos pins s σ H Q I (w σ H Q q)
theorem _root_.L2.PT.imp {t t' : TT} (h : PT X e t) (w : ∀ σ H Q, t' σ H Q → t σ H Q) : PT X e t' := fun pins s σ H Q I q => h pins s σ H Q I (w σ H Q q)
theorem join_some {i : Nat} {s : Slot} (e : (ρ[i]?).join = some s) : ρ[i]? = some (some s) := by
  cases q : ρ[i]? with
  | none => rw [q] at e; cases e
  | some o =>
    rw [q] at e
    cases o with
    | none => cases e
    | some t => cases e; rfl
theorem q_rd {i : Nat} (h : PE X e (tVar i)) : QE X e (mRd i) := h.imp fun σ H Q ⟨B, ρ, O, fp, r, ρ', R, hf, k⟩ => by
  have hf' : ((ρ[i]?).join.bind fun s => match s with
    | .own _ => some (Mi.R.bor i, ρ)
    | .own2 _ => some (.bor i, ρ)
    | s => some (.of s, ρ)) = some (r, ρ') := hf
  cases q : (ρ[i]?).join with
  | none => rw [q] at hf'; cases hf'
  | some s =>
    rw [q] at hf'
    obtain ⟨v, hv, hs⟩ := R.slot i s (join_some q)
    refine ⟨v, hv, ?_⟩
    cases s with
    | val d => cases hf'; exact k v H O fp R ⟨[], ⟨hs.1, rfl⟩, List.nodup_nil, fun a z => by simp at z⟩ Fr.refl
    | fz ds => cases hf'; exact k v H O fp R ⟨[], ⟨hs.1, rfl⟩, List.nodup_nil, fun a z => by simp at z⟩ Fr.refl
    | fz2 ds => cases hf'; exact k v H O fp R ⟨[], ⟨hs.1, rfl⟩, List.nodup_nil, fun a z => by simp at z⟩ Fr.refl
    | own ds => cases hf'; exact k v H O fp R hv Fr.refl
    | own2 ds => cases hf'; exact k v H O fp R hv Fr.refl
theorem q_val {i : Nat} (h : PE X e (tVar i)) : QE X e (mVal i) := h.imp fun σ H Q ⟨B, ρ, O, fp, r, ρ', R, hf, k⟩ => by
  have hf' : ((ρ[i]?).join.bind fun s => match s with
    | .own ds => some (Mi.R.of (.own ds), ρ.set i none)
    | .own2 dss => some (.of (.own2 dss), ρ.set i none)
    | s => some (.of s, ρ)) = some (r, ρ') := hf
  have mv : ∀ {s : Slot} {v : V}, SlotOk X.K H O s v (fp i) → σ[i]? = some (some v) →
      Rel X.K B (ρ.set i none) σ H O (fun j => if j = i then [] else fp j) ∧ ResOk X.K H O (fun j => if j = i then [] else fp j) σ (fl O fp) (.of s) v ∧ Fr H O fp H O (fun j => if j = i then [] else fp j) := fun {s v} hs hv => by
    refine ⟨R.drop i, ⟨fp i, hs, R.nd i, fun a ha => ⟨⟨R.sub i a ha, fun j => ?_⟩, fun z => z.2 i ha⟩⟩, fun _ _ z _ => z, fun _ z => .inl z, fun a z n => ⟨rfl, z, fun j => ?_⟩⟩
    · show a ∉ if j = i then [] else fp j
      by_cases e : j = i
      · rw [if_pos e]; simp
      · rw [if_neg e]; exact fun z => e (R.dis j i a z ha)
    · show a ∉ if j = i then [] else fp j
      by_cases e : j = i
      · rw [if_pos e]; simp
      · rw [if_neg e]; exact n j
  cases q : (ρ[i]?).join with
  | none => rw [q] at hf'; cases hf'
  | some s =>
    rw [q] at hf'
    obtain ⟨v, hv, hs⟩ := R.slot i s (join_some q)
    refine ⟨v, hv, ?_⟩
    cases s with
    | val d => cases hf'; exact k v H O fp R ⟨[], ⟨hs.1, rfl⟩, List.nodup_nil, fun a z => by simp at z⟩ Fr.refl
    | fz ds => cases hf'; exact k v H O fp R ⟨[], ⟨hs.1, rfl⟩, List.nodup_nil, fun a z => by simp at z⟩ Fr.refl
    | fz2 ds => cases hf'; exact k v H O fp R ⟨[], ⟨hs.1, rfl⟩, List.nodup_nil, fun a z => by simp at z⟩ Fr.refl
    | own ds => cases hf'; obtain ⟨a, b, c⟩ := mv hs hv; exact k v H O _ a b c
    | own2 ds => cases hf'; obtain ⟨a, b, c⟩ := mv hs hv; exact k v H O _ a b c
theorem q_c {d : D} {v : V} (h : PE X e (tC v)) (hd : ∀ H, Is X.K H d v) : QE X e (mC d) := h.imp fun σ H Q ⟨B, ρ, O, fp, r, ρ', R, hf, k⟩ => by
  cases hf
  exact k v H O fp R ⟨[], ⟨hd H, rfl⟩, List.nodup_nil, fun a z => by simp at z⟩ Fr.refl
theorem q_int {i : Int} {j : Nat} : QE X (.Constant (.int i) j pos) (mC (.int i)) := q_c pe_int fun _ => rfl
theorem q_bl {i : Bool} {j : Nat} : QE X (.Constant (.bool i) j pos) (mC (.bl i)) := q_c pe_bl fun _ => rfl
theorem q_str {x : Str} {j : Nat} : QE X (.Constant (.str x) j pos) (mC (.str x)) := q_c pe_str fun _ => rfl
theorem bind_some {α β : Type} {x : Option α} {f : α → Option β} {b : β} (h : x.bind f = some b) : ∃ a, x = some a ∧ f a = some b := by
  cases x with
  | none => cases h
  | some a => exact ⟨a, rfl, h⟩
theorem qa_nil : QA X [] mNil := pa_nil.imp fun σ H Q ⟨B, ρ, O, fp, r, ρ', R, hf, k⟩ => by
  cases hf
  exact k [] H O fp R rfl Fr.refl
theorem qa_cons {f : M R} {g : M (List R)} (ha : QE X e f) (hr : QA X es g) (hs : starEach (e :: es) X.env = (false, eval e X.env) :: starEach es X.env := by rfl) : QA X (e :: es) (mCons f g) :=
  (pa_cons ha hr hs).imp fun σ H Q ⟨B, ρ, O, fp, r, ρ', R, hf, k⟩ => by
    obtain ⟨⟨x, ρ1⟩, h1, hf⟩ := bind_some hf
    obtain ⟨⟨y, ρ2⟩, h2, hf⟩ := bind_some hf
    cases hf
    refine ⟨B, ρ, O, fp, x, ρ1, R, h1, fun v H1 O1 fp1 R1 k1 F1 => ⟨B, ρ1, O1, fp1, y, ρ2, R1, h2, fun vs H2 O2 fp2 R2 k2 F2 => ?_⟩⟩
    exact k (v :: vs) H2 O2 fp2 R2 ⟨v, vs, rfl, k1.fr F2 R1.lst, k2.back F1.fl⟩ (F1.trans F2)
noncomputable def SR (K : PySem.W.Frag) (g : List Slot → Option Slot) (r : List V → Hp → VK → Prop) : Prop :=
  ∀ H ss vs s Q, RdL K H ss vs → g ss = some s → Good K H s Q → r vs H Q
noncomputable def mOpF (g : List Slot → Option Slot) (args : M (List R)) : M R := fun ρ => (args ρ).bind fun x => (drs x.2 x.1).bind fun ss => (g ss).bind fun s => (fresh s).bind fun t => some (.of t, x.2)
theorem q_opN {f : M (List R)} {g : List Slot → Option Slot} {r : List V → Hp → VK → Prop} (hg : SR X.K g r) (h : PE X e (fun σ H Q => tQL X.K f σ H fun vs H1 => r vs H1 Q)) : QE X e (mOpF g f) :=
  h.imp fun σ H Q ⟨B, ρ, O, fp, x, ρ', R, hf, k⟩ => by
    obtain ⟨⟨rs, ρ1⟩, h1, hf⟩ := bind_some hf
    obtain ⟨ss, h2, hf⟩ := bind_some hf
    obtain ⟨s, h3, hf⟩ := bind_some hf
    obtain ⟨t, h4, hf⟩ := bind_some hf
    cases hf
    obtain ⟨rfl, hn⟩ := fresh_of h4
    refine ⟨B, ρ, O, fp, rs, ρ1, R, h1, fun vs H1 O1 fp1 R1 k1 F1 => ?_⟩
    exact hg H1 ss vs t Q (ResL.rd R1 k1 h2) h3 (R1.good (fun v H' O' R' k' F' => k v H' O' fp1 R' (k'.back F1.fl) (F1.trans F')) hn)
noncomputable def r2 (r : R2) : List V → Hp → VK → Prop := fun vs H Q => ∃ x y, vs = [x, y] ∧ r x y H Q
noncomputable def r1 (r : V → Hp → VK → Prop) : List V → Hp → VK → Prop := fun vs H Q => ∃ x, vs = [x] ∧ r x H Q
theorem two_of {ta tb : TE} {f g : M R} (hf : ∀ σ H Q, tQ K f σ H Q → ta σ H Q) (hg : ∀ σ H Q, tQ K g σ H Q → tb σ H Q) {r : R2} {σ : St} {H : Hp} {Q : VK}
    (h : tQL K (mCons f (mCons g mNil)) σ H fun vs H1 => r2 r vs H1 Q) : ta σ H fun x H1 => tb σ H1 fun y H2 => r x y H2 Q := by
  obtain ⟨B, ρ, O, fp, rs, ρ', R, hq, k⟩ := h
  obtain ⟨⟨x, ρ1⟩, h1, hq⟩ := bind_some hq
  obtain ⟨⟨z, ρ2⟩, h2, hq⟩ := bind_some hq
  obtain ⟨⟨y, ρ3⟩, h3, h4⟩ := bind_some h2
  cases h4
  cases hq
  refine hf _ _ _ ⟨B, ρ, O, fp, x, ρ1, R, h1, fun v H1 O1 fp1 R1 k1 F1 => hg _ _ _ ⟨B, ρ1, O1, fp1, y, _, R1, h3, fun u H2 O2 fp2 R2 k2 F2 => ?_⟩⟩
  obtain ⟨x', y', e, q⟩ := k [v, u] H2 O2 fp2 R2 ⟨v, [u], rfl, k1.fr F2 R1.lst, u, [], rfl, k2.back F1.fl, rfl⟩ (F1.trans F2)
  cases e
  exact q
theorem q_bin {op : Operator} {r : R2} {f g : M R} {w : List Slot → Option Slot} (ho : OpR X (binaryOp op) r) (hw : SR X.K w (r2 r)) (ha : QE X a f) (hb : QE X b g) : QE X (.BinOp a op b pos) (mOpF w (mCons f (mCons g mNil))) :=
  q_opN hw ((pe_op ho ha hb).imp fun σ H Q h => two_of (fun _ _ _ q => q) (fun _ _ _ q => q) h)
theorem q_cmp {op : CmpOp} {r : R2} {f g : M R} {w : List Slot → Option Slot} (ho : OpR X (compareOp op) r) (hw : SR X.K w (r2 r)) (ha : QE X a f) (hb : QE X b g) (hm : behindInMarks op b = false) : QE X (.Compare a [op] [b] pos) (mOpF w (mCons f (mCons g mNil))) :=
  q_opN hw ((pe_cmpR ho ha hb hm).imp fun σ H Q h => two_of (fun _ _ _ q => q) (fun _ _ _ q => q) h)
theorem q_ix {r : R2} {f g : M R} {w : List Slot → Option Slot} (ho : IxR X r) (hw : SR X.K w (r2 r)) (ha : QE X a f) (hb : QE X b g) (hs : PlainIx b) : QE X (.Subscript a b pos) (mOpF w (mCons f (mCons g mNil))) :=
  q_opN hw ((pe_ix ho ha hb hs).imp fun σ H Q h => two_of (fun _ _ _ q => q) (fun _ _ _ q => q) h)
theorem q_un {op : UnaryOp} {r : V → Hp → VK → Prop} {f : M R} {w : List Slot → Option Slot} (ho : UnR X (unaryOp op) r) (hw : SR X.K w (r1 r)) (ha : QE X a f) : QE X (.UnaryOp op a pos) (mOpF w (mCons f mNil)) :=
  q_opN hw ((pe_un ho ha).imp fun σ H Q ⟨B, ρ, O, fp, rs, ρ', R, hq, k⟩ => by
    obtain ⟨⟨x, ρ1⟩, h1, hq⟩ := bind_some hq
    cases hq
    refine ⟨B, ρ, O, fp, x, ρ1, R, h1, fun v H1 O1 fp1 R1 k1 F1 => ?_⟩
    obtain ⟨x', e, q⟩ := k [v] H1 O1 fp1 R1 ⟨v, [], rfl, k1, rfl⟩ F1
    cases e
    exact q)
section
variable {x : Str} {p : Pos} {id T : String} {r : List V → Hp → VK → Prop} {f : M (List R)} {w : List Slot → Option Slot}
theorem q_callB (hc : CallR X (.builtin id) r) (hw : SR X.K w r) (hg : Gl X x) (hm : X.mg x = none) (hv : bootBuiltins x = some (.builtin id)) (ha : QA X (e :: es) f) (hn : x ≠ "__name__" := by decide) (hdb : (x == ("__debug__" : Str)) = false := by decide)
    (he : starEach (e :: es) X.env = (false, eval e X.env) :: starEach es X.env := by rfl) (hpl : (backTo pos (starEach es X.env)).any (·.1) = false := by rfl) : QE X (.Call (.Name x p) (e :: es) [] pos) (mOpF w f) :=
  q_opN hw (pe_callB hc hg hm hv ha hn hdb he hpl)
theorem q_callTy (hc : CallR X (.type T) r) (hw : SR X.K w r) (hg : Gl X x) (hm : X.mg x = none) (hv : bootBuiltins x = some (.type T)) (ha : QA X (e :: es) f) (hn : x ≠ "__name__" := by decide) (hdb : (x == ("__debug__" : Str)) = false := by decide)
    (he : starEach (e :: es) X.env = (false, eval e X.env) :: starEach es X.env := by rfl) (hpl : (backTo pos (starEach es X.env)).any (·.1) = false := by rfl) : QE X (.Call (.Name x p) (e :: es) [] pos) (mOpF w f) :=
  q_opN hw (pe_callTy hc hg hm hv ha hn hdb he hpl)
end
noncomputable def spF (K : PySem.W.Frag) (n : Nat) (F : List Slot → Option Slot) : Sp := fun vs H Q _ => ∃ ss s, ss.length = n ∧ RdL K H ss vs ∧ F ss = some s ∧ Good K H s Q
section
variable {CX : CXT} {k n : Nat} {f : Addr} {fd : FuncData} {ps : List Str} {x : Str} {p : Pos} {F : List Slot → Option Slot} {m : M (List R)}
noncomputable def ofLen (n : Nat) (F : List Slot → Option Slot) : List Slot → Option Slot := fun ss => if ss.length = n then F ss else none
theorem q_call (G : FnOk X.prog X.w X.K X.mg X.base CX0 k f fd ps (spF X.K n F)) (hr : Room k X.A) (hg : Gl X x) (hm : X.mg x = some (.ref f)) (hk : PySem.W.keepIn X.K (.ref f) = true) (hb : Binds X.K fd ps [])
    (ha : QA X (e :: es) m) (hdb : (x == ("__debug__" : Str)) = false := by decide) (he : starEach (e :: es) X.env = (false, eval e X.env) :: starEach es X.env := by rfl) (hpl : (backTo pos (starEach es X.env)).any (·.1) = false := by rfl) :
    QE X (.Call (.Name x p) (e :: es) [] pos) (mOpF (ofLen n F) m) :=
  q_opN (r := fun vs H Q => spF X.K n F vs H Q E0) (fun H ss vs s Q h e g => by
    have e' : (if ss.length = n then F ss else none) = some s := e
    by_cases z : ss.length = n
    · rw [if_pos z] at e'
      exact ⟨ss, s, z, h, e', g⟩
    · rw [if_neg z] at e'; cases e')
    ((pe_call G hr hg hm hk hb .nil pass0 ha hdb he hpl).imp fun σ H Q h => by
      obtain ⟨B, ρ, O, fp, rs, ρ', R, hf, k⟩ := h
      exact ⟨B, ρ, O, fp, rs, ρ', R, hf, fun vs H' O' fp' R' k' F' => by
        show spF X.K n F (vs ++ []) H' Q E0
        rw [List.append_nil]; exact k vs H' O' fp' R' k' F'⟩)
end
noncomputable def mTru (f : M R) : M Bool := fun ρ => (f ρ).bind fun x => match x.1 with
  | .of (.val (.bl b)) => some (b, x.2)
  | _ => none
noncomputable def mNot (f : M Bool) : M Bool := fun ρ => (f ρ).bind fun x => some (!x.1, x.2)
noncomputable def mAnd (f g : M Bool) : M Bool := fun ρ => (f ρ).bind fun x => if x.1 = true then g x.2 else some (false, x.2)
noncomputable def mOr (f g : M Bool) : M Bool := fun ρ => (f ρ).bind fun x => if x.1 = true then some (true, x.2) else g x.2
noncomputable def tTst (t : TE) : TT := fun σ H Q => t σ H fun x H1 => ∃ c, x = .bl c ∧ Q c H1
theorem tst_of {t : TE} {f : M R} (h : ∀ σ H Q, tQ K f σ H Q → t σ H Q) {σ : St} {H : Hp} {Q : Bool → Hp → Prop} (q : tQT K (mTru f) σ H Q) : tTst t σ H Q := by
  obtain ⟨B, ρ, O, fp, b, ρ', R, hf, k⟩ := q
  obtain ⟨⟨x, ρ1⟩, h1, hf⟩ := bind_some hf
  refine h _ _ _ ⟨B, ρ, O, fp, x, ρ1, R, h1, fun v H' O' fp' R' k' F' => ?_⟩
  cases x with
  | bor i => cases hf
  | of s =>
    cases s with
    | val d =>
      cases d with
      | bl c =>
        cases hf
        obtain ⟨f, ⟨hs, _⟩, _⟩ := k'
        exact ⟨_, hs, k H' O' fp' R' F'⟩
      | _ => cases hf
    | _ => cases hf
theorem qt_val {f : M R} (h : QE X e f) (he : ∀ whole, isTrue e X.env whole = (do let v ← whole; standAt e.pos; holding [v] (truthy v)) := by intro _; rfl) : QT X e (mTru f) :=
  (pt_val h he).imp fun σ H Q q => tst_of (fun _ _ _ z => z) q
theorem qt_cmp {op : CmpOp} {r : R2} {f g : M R} {w : List Slot → Option Slot} (ho : OpR X (compareOp op) r) (hw : SR X.K w (r2 r)) (ha : QE X a f) (hb : QE X b g) (hm : behindInMarks op b = false) : QT X (.Compare a [op] [b] pos) (mTru (mOpF w (mCons f (mCons g mNil)))) :=
  (pt_cmpR ho ha hb hm).imp fun σ H Q q => tst_of (t := tOp r (tQ X.K f) (tQ X.K g)) (fun σ H Q z => two_of (r := r) (fun _ _ _ q => q) (fun _ _ _ q => q) (by
    obtain ⟨B, ρ, O, fp, x, ρ', R, hf, k⟩ := z
    obtain ⟨⟨rs, ρ1⟩, h1, hf⟩ := bind_some hf
    obtain ⟨ss, h2, hf⟩ := bind_some hf
    obtain ⟨s, h3, hf⟩ := bind_some hf
    obtain ⟨t, h4, hf⟩ := bind_some hf
    cases hf
    obtain ⟨rfl, hn⟩ := fresh_of h4
    refine ⟨B, ρ, O, fp, rs, ρ1, R, h1, fun vs H1 O1 fp1 R1 k1 F1 => ?_⟩
    exact hw H1 ss vs t Q (ResL.rd R1 k1 h2) h3 (R1.good (fun v H' O' R' k' F' => k v H' O' fp1 R' (k'.back F1.fl) (F1.trans F')) hn))) q
theorem qt_not {f : M Bool} (h : QT X a f) : QT X (.UnaryOp .Not a pos) (mNot f) := (pt_not h).imp fun σ H Q ⟨B, ρ, O, fp, b, ρ', R, hf, k⟩ => by
  obtain ⟨⟨x, ρ1⟩, h1, hf⟩ := bind_some hf
  cases hf
  exact ⟨B, ρ, O, fp, x, ρ1, R, h1, fun H' O' fp' R' F' => k H' O' fp' R' F'⟩
noncomputable abbrev QW (X : Cx) (e : Expr) (f : M Bool) : Prop := PW X e (tQT X.K f)
theorem _root_.L2.PW.imp {t t' : TT} (h : PW X e t) (w : ∀ σ H Q, t' σ H Q → t σ H Q) : PW X e t' := fun wh pins s σ H Q I q => h wh pins s σ H Q I (w σ H Q q)
theorem and_of {t u : TT} {f g : M Bool} (hf : ∀ σ H Q, tQT K f σ H Q → t σ H Q) (hg : ∀ σ H Q, tQT K g σ H Q → u σ H Q) {σ : St} {H : Hp} {Q : Bool → Hp → Prop} (h : tQT K (mAnd f g) σ H Q) : tAnd t u σ H Q := by
  obtain ⟨B, ρ, O, fp, b, ρ', R, hq, k⟩ := h
  obtain ⟨⟨x, ρ1⟩, h1, hq⟩ := bind_some hq
  refine hf _ _ _ ⟨B, ρ, O, fp, x, ρ1, R, h1, fun H1 O1 fp1 R1 F1 => ?_⟩
  cases x with
  | true =>
    rw [if_pos rfl] at hq
    rw [if_pos rfl]
    exact hg _ _ _ ⟨B, ρ1, O1, fp1, b, ρ', R1, hq, fun H2 O2 fp2 R2 F2 => k H2 O2 fp2 R2 (F1.trans F2)⟩
  | false =>
    rw [if_neg Bool.false_ne_true] at hq
    rw [if_neg Bool.false_ne_true]
    cases hq
    exact k H1 O1 fp1 R1 F1
theorem or_of {t u : TT} {f g : M Bool} (hf : ∀ σ H Q, tQT K f σ H Q → t σ H Q) (hg : ∀ σ H Q, tQT K g σ H Q → u σ H Q) {σ : St} {H : Hp} {Q : Bool → Hp → Prop} (h : tQT K (mOr f g) σ H Q) : tOr t u σ H Q := by
  obtain ⟨B, ρ, O, fp, b, ρ', R, hq, k⟩ := h
  obtain ⟨⟨x, ρ1⟩, h1, hq⟩ := bind_some hq
  refine hf _ _ _ ⟨B, ρ, O, fp, x, ρ1, R, h1, fun H1 O1 fp1 R1 F1 => ?_⟩
  cases x with
  | false =>
    rw [if_neg Bool.false_ne_true] at hq
    rw [if_neg Bool.false_ne_true]
    exact hg _ _ _ ⟨B, ρ1, O1, fp1, b, ρ', R1, hq, fun H2 O2 fp2 R2 F2 => k H2 O2 fp2 R2 (F1.trans F2)⟩
  | true =>
    rw [if_pos rfl] at hq
    rw [if_pos rfl]
    cases hq
    exact k H1 O1 fp1 R1 F1
variable {rest : List Expr}
theorem qw_and1 {f : M Bool} (h : QT X a f) : QW X (.BoolOp .And [a] pos) f := pw_and1 h
theorem qw_or1 {f : M Bool} (h : QT X a f) : QW X (.BoolOp .Or [a] pos) f := pw_or1 h
theorem qw_and {f g : M Bool} (ha : QT X a f) (hb : QW X (.BoolOp .And (b :: rest) pos) g) : QW X (.BoolOp .And (a :: b :: rest) pos) (mAnd f g) := (pw_and ha hb).imp fun _ _ _ q => and_of (fun _ _ _ z => z) (fun _ _ _ z => z) q
theorem qw_or {f g : M Bool} (ha : QT X a f) (hb : QW X (.BoolOp .Or (b :: rest) pos) g) : QW X (.BoolOp .Or (a :: b :: rest) pos) (mOr f g) := (pw_or ha hb).imp fun _ _ _ q => or_of (fun _ _ _ z => z) (fun _ _ _ z => z) q
theorem qt_w {f : M Bool} (h : QW X e f) : QT X e f := h.pt
noncomputable def mBl (f : M Bool) : M R := fun ρ => (f ρ).bind fun x => some (.of (.val (.bl x.1)), x.2)
theorem bl_res {b : Bool} {v : V} {Z : Addr → Prop} (h : v = .bl b) : ResOk K H O fp σ Z (.of (.val (.bl b))) v := ⟨[], ⟨h, rfl⟩, List.nodup_nil, fun a z => by simp at z⟩
noncomputable def BlOf (K : PySem.W.Frag) (f : M Bool) (t : TE) : Prop := ∀ σ H Q, (tQT K f σ H fun b H1 => Q (.bl b) H1) → t σ H Q
theorem q_bl_of {f : M Bool} {t : TE} (h : PE X e t) (w : BlOf X.K f t) : QE X e (mBl f) := h.imp fun σ H Q ⟨B, ρ, O, fp, r, ρ', R, hf, k⟩ => by
  obtain ⟨⟨x, ρ1⟩, h1, hf⟩ := bind_some hf
  cases hf
  exact w σ H Q ⟨B, ρ, O, fp, x, ρ1, R, h1, fun H' O' fp' R' F' => k (.bl x) H' O' fp' R' (bl_res rfl) F'⟩
theorem bv_of {f : M R} : BlOf K (mTru f) (tQ K f) := fun σ H Q q => by
  have z := tst_of (K := K) (t := tQ K f) (f := f) (fun _ _ _ z => z) q
  obtain ⟨B, ρ, O, fp, r, ρ', R, hf, k⟩ := z
  exact ⟨B, ρ, O, fp, r, ρ', R, hf, fun v H' O' fp' R' k' F' => by
    obtain ⟨c, e, q⟩ := k v H' O' fp' R' k' F'
    rw [e]; exact q⟩
structure QB (X : Cx) (e : Expr) (f : M Bool) : Prop where
  ex : ∃ t, PE X e t ∧ BlOf X.K f t
theorem QB.q {f : M Bool} (h : QB X e f) : QE X e (mBl f) := let ⟨_, a, b⟩ := h.ex; q_bl_of a b
theorem qb_val {f : M R} (h : QE X e f) : QB X e (mTru f) := ⟨_, h, bv_of⟩
theorem qb_one {op : BoolOp} {f : M Bool} (h : QB X a f) : QB X (.BoolOp op [a] pos) f := let ⟨t, a, b⟩ := h.ex; ⟨t, pe_one a, b⟩
theorem qb_and {f g : M Bool} (ha : QB X a f) (hb : QB X (.BoolOp .And (b :: rest) pos) g) : QB X (.BoolOp .And (a :: b :: rest) pos) (mAnd f g) := by
  obtain ⟨t, h1, h2⟩ := ha.ex
  obtain ⟨u, g1, g2⟩ := hb.ex
  refine ⟨_, pe_and h1 g1, fun σ H Q ⟨B, ρ, O, fp, b, ρ', R, hq, k⟩ => ?_⟩
  obtain ⟨⟨x, ρ1⟩, q1, hq⟩ := bind_some hq
  refine h2 _ _ _ ⟨B, ρ, O, fp, x, ρ1, R, q1, fun H1 O1 fp1 R1 F1 => ⟨x, rfl, ?_⟩⟩
  cases x with
  | true =>
    rw [if_pos rfl] at hq
    rw [if_pos rfl]
    exact g2 _ _ _ ⟨B, ρ1, O1, fp1, b, ρ', R1, hq, fun H2 O2 fp2 R2 F2 => k H2 O2 fp2 R2 (F1.trans F2)⟩
  | false =>
    rw [if_neg Bool.false_ne_true] at hq
    rw [if_neg Bool.false_ne_true]
    cases hq
    exact k H1 O1 fp1 R1 F1
noncomputable def mIf (c : M Bool) (f g : M R) : M R := fun ρ => (c ρ).bind fun x => if x.1 = true then f x.2 else g x.2
theorem q_if {c : Expr} {m : M Bool} {f g : M R} (hc : QT X c m) (ha : QE X a f) (hb : QE X b g) : QE X (.IfExp c a b pos) (mIf m f g) :=
  (pe_ifExp hc ha hb).imp fun σ H Q ⟨B, ρ, O, fp, r, ρ', R, hq, k⟩ => by
    obtain ⟨⟨x, ρ1⟩, q1, hq⟩ := bind_some hq
    refine ⟨B, ρ, O, fp, x, ρ1, R, q1, fun H1 O1 fp1 R1 F1 => ?_⟩
    cases x with
    | true =>
      rw [if_pos rfl] at hq
      rw [if_pos rfl]
      exact ⟨B, ρ1, O1, fp1, r, ρ', R1, hq, fun v H2 O2 fp2 R2 k2 F2 => k v H2 O2 fp2 R2 (k2.back F1.fl) (F1.trans F2)⟩
    | false =>
      rw [if_neg Bool.false_ne_true] at hq
      rw [if_neg Bool.false_ne_true]
      exact ⟨B, ρ1, O1, fp1, r, ρ', R1, hq, fun v H2 O2 fp2 R2 k2 F2 => k v H2 O2 fp2 R2 (k2.back F1.fl) (F1.trans F2)⟩
end
end Mi
namespace Mi
open PySem L2
variable {K : PySem.W.Frag} {H H' : Hp} {O O' : Addr → Prop} {fp fp' : Nat → List Addr} {B : Hp} {ρ ρ' : En} {σ : St}
inductive Out where
  | nx (ρ : En) | rt (s : Slot) | bk (ρ : En) | ct (ρ : En)
noncomputable abbrev MS := En → Option Out
noncomputable def OutOk (K : PySem.W.Frag) (B : Hp) (H : Hp) (O : Addr → Prop) (fp : Nat → List Addr) (D : Ends) : Out → Prop
  | .nx ρ' => ∀ σ' H' O' fp', Rel K B ρ' σ' H' O' fp' → Fr H O fp H' O' fp' → D.nx σ' H'
  | .bk ρ' => ∀ σ' H' O' fp', Rel K B ρ' σ' H' O' fp' → Fr H O fp H' O' fp' → D.bk σ' H'
  | .ct ρ' => ∀ σ' H' O' fp', Rel K B ρ' σ' H' O' fp' → Fr H O fp H' O' fp' → D.ct σ' H'
  | .rt s => ∀ ρ' σ' v H' O' fp', Rel K B ρ' σ' H' O' fp' → ResOk K H' O' fp' σ' O0 (.of s) v → D.rt v H'
noncomputable def tQS (K : PySem.W.Frag) (g : MS) : TS := fun D σ H => ∃ B ρ O fp o, Rel K B ρ σ H O fp ∧ g ρ = some o ∧ OutOk K B H O fp D o
theorem OutOk.fr {D : Ends} {o : Out} {H1 : Hp} {O1 : Addr → Prop} {fp1 : Nat → List Addr} (F : Fr H O fp H1 O1 fp1) (h : OutOk K B H O fp D o) : OutOk K B H1 O1 fp1 D o := by
  cases o with
  | nx ρ' => exact fun σ' H' O' fp' R F' => h σ' H' O' fp' R (F.trans F')
  | bk ρ' => exact fun σ' H' O' fp' R F' => h σ' H' O' fp' R (F.trans F')
  | ct ρ' => exact fun σ' H' O' fp' R F' => h σ' H' O' fp' R (F.trans F')
  | rt s => exact h
noncomputable abbrev QS (X : Cx) (st : Stmt) (g : MS) : Prop := PS X st (tQS X.K g)
noncomputable abbrev QSs (X : Cx) (st : List Stmt) (g : MS) : Prop := PSs X st (tQS X.K g)
noncomputable def sNil : MS := fun ρ => some (.nx ρ)
noncomputable def sSeq (a b : MS) : MS := fun ρ => (a ρ).bind fun o => match o with
  | .nx ρ' => b ρ'
  | .rt s => some (.rt s)
  | .bk ρ' => some (.bk ρ')
  | .ct ρ' => some (.ct ρ')
noncomputable def sRet (f : M R) : MS := fun ρ => (f ρ).bind fun x => match x.1 with
  | .of s => some (.rt s)
  | .bor _ => none
noncomputable def sIf (c : M Bool) (a b : MS) : MS := fun ρ => (c ρ).bind fun x => if x.1 = true then a x.2 else b x.2
noncomputable def sDrop (f : M R) : MS := fun ρ => (f ρ).bind fun x => some (.nx x.2)
noncomputable def sSet (i : Nat) (f : M R) : MS := fun ρ => (f ρ).bind fun x => match x.1 with
  | .of s => if i < x.2.length then some (.nx (x.2.set i (some s))) else none
  | .bor _ => none
section
variable {X : Cx} {e a b : Expr} {st : Stmt} {rest : List Stmt} {pos : Pos}
theorem _root_.L2.PS.imp {t t' : TS} (h : PS X st t) (w : ∀ D σ H, t' D σ H → t D σ H) : PS X st t' := fun pins s σ H D I q => h pins s σ H D I (w D σ H q)
theorem _root_.L2.PSs.imp {t t' : TS} (h : PSs X rest t) (w : ∀ D σ H, t' D σ H → t D σ H) : PSs X rest t' := fun pins s σ H D I q => h pins s σ H D I (w D σ H q)
theorem qs_nil : QSs X [] sNil := pss_nil.imp fun D σ H ⟨B, ρ, O, fp, o, R, hg, k⟩ => by
  cases hg
  exact k σ H O fp R Fr.refl
theorem seq_of {D : Ends} {g1 g2 : MS} {σ : St} {H : Hp} (h : tQS K (sSeq g1 g2) D σ H) : tQS K g1 { D with nx := tQS K g2 D } σ H := by
  obtain ⟨B, ρ, O, fp, o, R, hg, k⟩ := h
  obtain ⟨o1, h1, hg⟩ := bind_some hg
  refine ⟨B, ρ, O, fp, o1, R, h1, ?_⟩
  cases o1 with
  | nx ρ1 => exact fun σ' H' O' fp' R' F' => ⟨B, ρ1, O', fp', o, R', hg, k.fr F'⟩
  | rt s => cases hg; exact k
  | bk ρ1 => cases hg; exact k
  | ct ρ1 => cases hg; exact k
theorem qs_cons {g1 g2 : MS} (h1 : QS X st g1) (h2 : QSs X rest g2) : QSs X (st :: rest) (sSeq g1 g2) := (pss_cons h1 h2).imp fun D σ H h => seq_of h
theorem qs_one {g : MS} (h1 : QS X st g) : QSs X [st] g := pss_one h1
theorem qs_ret {f : M R} (h : QE X e f) : QS X (.Return (some e) pos) (sRet f) := (ps_ret h).imp fun D σ H ⟨B, ρ, O, fp, o, R, hg, k⟩ => by
  obtain ⟨⟨x, ρ1⟩, h1, hg⟩ := bind_some hg
  refine ⟨B, ρ, O, fp, x, ρ1, R, h1, fun v H' O' fp' R' k' F' => ?_⟩
  cases x with
  | bor i => cases hg
  | of s => cases hg; exact k ρ1 σ v H' O' fp' R' (k'.back fun _ z => z.elim)
theorem qs_if {c : Expr} {as bs : List Stmt} {m : M Bool} {g h : MS} (hc : QT X c m) (ha : QSs X as g) (hb : QSs X bs h) : QS X (.If c as bs pos) (sIf m g h) :=
  (ps_if hc ha hb).imp fun D σ H ⟨B, ρ, O, fp, o, R, hg, k⟩ => by
    obtain ⟨⟨x, ρ1⟩, h1, hg⟩ := bind_some hg
    refine ⟨B, ρ, O, fp, x, ρ1, R, h1, fun H' O' fp' R' F' => ?_⟩
    cases x with
    | true =>
      rw [if_pos rfl] at hg
      rw [if_pos rfl]
      exact ⟨B, ρ1, O', fp', o, R', hg, k.fr F'⟩
    | false =>
      rw [if_neg Bool.false_ne_true] at hg
      rw [if_neg Bool.false_ne_true]
      exact ⟨B, ρ1, O', fp', o, R', hg, k.fr F'⟩
theorem qs_expr {f : M R} (h : QE X e f) (hs : swapsWith e none pos.line X.env = pure false := by rfl) : QS X (.Expr e pos) (sDrop f) := (ps_expr h hs).imp fun D σ H ⟨B, ρ, O, fp, o, R, hg, k⟩ => by
  obtain ⟨⟨x, ρ1⟩, h1, hg⟩ := bind_some hg
  cases hg
  exact ⟨B, ρ, O, fp, x, ρ1, R, h1, fun v H' O' fp' R' k' F' => k σ H' O' fp' R' F'⟩
theorem set_of {D : Ends} {i : Nat} {f : M R} {σ : St} {H : Hp} (h : tQS K (sSet i f) D σ H) : tAsg (tQ K f) (gName i) D σ H := by
  obtain ⟨B, ρ, O, fp, o, R, hg, k⟩ := h
  obtain ⟨⟨x, ρ1⟩, h1, hg⟩ := bind_some hg
  refine ⟨B, ρ, O, fp, x, ρ1, R, h1, fun v H' O' fp' R' k' F' => ?_⟩
  cases x with
  | bor i => cases hg
  | of s =>
    have hg' : (if i < ρ1.length then some (Out.nx (ρ1.set i (some s))) else none) = some o := hg
    by_cases hi : i < ρ1.length
    · rw [if_pos hi] at hg'
      cases hg'
      obtain ⟨g, hs, nd, hf⟩ := k'
      exact k _ H' O' _ (R'.set hs nd (fun a ha => (hf a ha).1) hi) (F'.set i fun a ha => (hf a ha).2)
    · rw [if_neg hi] at hg'; cases hg'
theorem qs_set {i : Nat} {x : Str} {f : M R} {pos' : Pos} (hN : X.N.Nodup) (hi : X.N[i]? = some x) (hx : Loc X.env.scope x) (he : QE X e f) (hs : swapsWith e (some (.Name x pos')) pos.line X.env = pure false := by rfl)
    (hf : X.fn x = true ∨ X.env.scope.names.lookup x = some .local := by first | exact .inl rfl | exact .inr rfl | assumption) : QS X (.Assign [.Name x pos'] e pos) (sSet i f) :=
  (ps_set hN hi hx he hs hf).imp fun D σ H h => set_of h
noncomputable abbrev MG := Slot → En → Option En
noncomputable def Agr (ks : List Nat) (σ σ' : St) : Prop := σ'.length = σ.length ∧ ∀ j, j ∉ ks → σ'[j]? = σ[j]?
theorem Agr.refl {ks : List Nat} {σ : St} : Agr ks σ σ := ⟨rfl, fun _ _ => rfl⟩
theorem Agr.trans {ks ks' : List Nat} {σ σ1 σ2 : St} (a : Agr ks σ σ1) (b : Agr ks' σ1 σ2) : Agr (ks ++ ks') σ σ2 :=
  ⟨b.1.trans a.1, fun j h => (b.2 j fun z => h (List.mem_append_right _ z)).trans (a.2 j fun z => h (List.mem_append_left _ z))⟩
theorem Agr.set {σ : St} {i : Nat} {v : Option V} : Agr [i] σ (σ.set i v) := ⟨by simp, fun j h => List.getElem?_set_ne (fun z => h (by simp [z]))⟩
noncomputable def tQG (K : PySem.W.Frag) (ks : List Nat) (g : MG) : TG := fun v σ H Q => ∃ B ρ O fp s ρ', Rel K B ρ σ H O fp ∧ SlotOk K H O s v [] ∧ g s ρ = some ρ' ∧
  ∀ σ' H' O' fp', Agr ks σ σ' → Rel K B ρ' σ' H' O' fp' → Fr H O fp H' O' fp' → Q σ' H'
noncomputable abbrev QG (X : Cx) (e : Expr) (ks : List Nat) (g : MG) : Prop := PG X e (tQG X.K ks g)
theorem _root_.L2.PG.imp {t t' : TG} (h : PG X e t) (w : ∀ v σ H Q, t' v σ H Q → t v σ H Q) : PG X e t' := fun pins s σ H v u Q I r q => h pins s σ H v u Q I r (w v σ H Q q)
noncomputable def setN (i : Nat) : MG := fun s ρ => if i < ρ.length then some (ρ.set i (some s)) else none
theorem qg_name {i : Nat} (h : PG X e (gName i)) : QG X e [i] (setN i) := h.imp fun v σ H Q ⟨B, ρ, O, fp, s, ρ', R, hs, hg, k⟩ => by
  have hg' : (if i < ρ.length then some (ρ.set i (some s)) else none) = some ρ' := hg
  by_cases hi : i < ρ.length
  · rw [if_pos hi] at hg'
    cases hg'
    exact k _ H O _ Agr.set (R.set hs List.nodup_nil (fun a ha => by simp at ha) hi) (Fr.refl.set i fun a ha => by simp at ha)
  · rw [if_neg hi] at hg'; cases hg'
noncomputable abbrev MGs := List D → En → Option En
noncomputable def tQGs (K : PySem.W.Frag) (ks : List Nat) (g : MGs) : TGs := fun vs σ H Q => ∃ B ρ O fp ds ρ', Rel K B ρ σ H O fp ∧ IsL K H ds vs ∧ g ds ρ = some ρ' ∧
  ∀ σ' H' O' fp', Agr ks σ σ' → Rel K B ρ' σ' H' O' fp' → Fr H O fp H' O' fp' → Q σ' H'
noncomputable abbrev QGs (X : Cx) (es : List Expr) (ks : List Nat) (g : MGs) : Prop := PGs X es (tQGs X.K ks g)
noncomputable def gsNil : MGs := fun ds ρ => match ds with
  | [] => some ρ
  | _ => none
noncomputable def gsCons (g : MG) (gs : MGs) : MGs := fun ds ρ => match ds with
  | [] => none
  | d :: r => (g (.val d) ρ).bind fun ρ' => gs r ρ'
theorem _root_.L2.PGs.imp {es : List Expr} {t t' : TGs} (h : PGs X es t) (w : ∀ v σ H Q, t' v σ H Q → t v σ H Q) : PGs X es t' := fun pins s σ H v u Q I r q => h pins s σ H v u Q I r (w v σ H Q q)
theorem qgs_nil : QGs X [] [] gsNil := pgs_nil.imp fun vs σ H Q ⟨B, ρ, O, fp, ds, ρ', R, hs, hg, k⟩ => by
  cases ds with
  | cons d r => cases hg
  | nil =>
    cases hg
    exact ⟨hs, k σ H O fp Agr.refl R Fr.refl⟩
theorem qgs_cons {es : List Expr} {ks ks' : List Nat} {g : MG} {gs : MGs} (h1 : QG X e ks g) (h2 : QGs X es ks' gs) (hs : (assignEach (e :: es) X.env).map (·.2) = assign e X.env :: (assignEach es X.env).map (·.2) := by rfl) : QGs X (e :: es) (ks ++ ks') (gsCons g gs) :=
  (pgs_cons h1 h2 hs).imp fun vs σ H Q ⟨B, ρ, O, fp, ds, ρ', R, hs, hg, k⟩ => by
    cases ds with
    | nil => cases hg
    | cons d r =>
      obtain ⟨v, us, rfl, hd, hl⟩ := hs
      obtain ⟨ρ1, q1, q2⟩ := bind_some hg
      refine ⟨v, us, rfl, B, ρ, O, fp, .val d, ρ1, R, ⟨hd, rfl⟩, q1, fun σ1 H1 O1 fp1 A1 R1 F1 => ?_⟩
      exact ⟨B, ρ1, O1, fp1, r, ρ', R1, hl.tk (F1.tk R.lst), q2, fun σ2 H2 O2 fp2 A2 R2 F2 => k σ2 H2 O2 fp2 (A1.trans A2) R2 (F1.trans F2)⟩
noncomputable def setT (n : Nat) (gs : MGs) : MG := fun s ρ => match s with
  | .val (.tup ds) => if ds.length = n then gs ds ρ else none
  | _ => none
theorem qg_tup {es : List Expr} {k : Nat} {ks : List Nat} {gs : MGs} {n : Nat} (hc : X.calm = true) (h : QGs X es ks gs) (hn : (assignEach es X.env).length = n := by rfl) (hst : (assignEach es X.env).findIdx? (·.1) = none := by rfl) : QG X (.Tuple es k pos) ks (setT n gs) :=
  (pg_tup hc h hn hst).imp fun v σ H Q ⟨B, ρ, O, fp, s, ρ', R, hs, hg, k⟩ => by
    cases s with
    | val d =>
      cases d with
      | tup ds =>
        have hg' : (if ds.length = n then gs ds ρ else none) = some ρ' := hg
        by_cases hl : ds.length = n
        · rw [if_pos hl] at hg'
          obtain ⟨⟨a, vs, e, q, l⟩, _⟩ := hs
          exact ⟨a, vs, e, q, l.length.trans hl, B, ρ, O, fp, ds, ρ', R, l, hg', k⟩
        · rw [if_neg hl] at hg'; cases hg'
      | _ => cases hg
    | _ => cases hg
noncomputable def imm : Slot → Option Slot
  | .own _ => none
  | .own2 _ => none
  | s => some s
noncomputable def sAsg (g : MG) (f : M R) : MS := fun ρ => (f ρ).bind fun x => match x.1 with
  | .of s => (imm s).bind fun s => (g s x.2).bind fun ρ' => some (.nx ρ')
  | .bor _ => none
theorem imm_foot {s t : Slot} {v : V} {f : List Addr} (h : imm s = some t) (k : SlotOk K H O s v f) : t = s ∧ f = [] := by
  cases s with
  | val d => cases h; exact ⟨rfl, k.2⟩
  | fz d => cases h; exact ⟨rfl, k.2⟩
  | fz2 d => cases h; exact ⟨rfl, k.2⟩
  | own d => cases h
  | own2 d => cases h
theorem qs_asg {tg : Expr} {f : M R} {ks : List Nat} {g : MG} (he : QE X e f) (hg : QG X tg ks g) (hs : swapsWithSole [tg] e pos.line X.env = pure false := by rfl) (hw : swappedStores [tg] e X.env = pure none := by rfl)
    (h1 : (assignEach [tg] X.env).map (·.2) = [assign tg X.env] := by rfl) : QS X (.Assign [tg] e pos) (sAsg g f) :=
  (ps_asg he hg hs hw h1).imp fun D σ H ⟨B, ρ, O, fp, o, R, hg, k⟩ => by
    obtain ⟨⟨x, ρ1⟩, h1, hg⟩ := bind_some hg
    refine ⟨B, ρ, O, fp, x, ρ1, R, h1, fun v H' O' fp' R' k' F' => ?_⟩
    cases x with
    | bor i => cases hg
    | of s =>
      obtain ⟨t, q1, hg⟩ := bind_some hg
      obtain ⟨ρ2, q2, hg⟩ := bind_some hg
      cases hg
      obtain ⟨f, hs, nd, hf⟩ := k'
      obtain ⟨rfl, rfl⟩ := imm_foot q1 hs
      exact ⟨B, ρ1, O', fp', t, ρ2, R', hs, q2, fun σ2 H2 O2 fp2 _ R2 F2 => k σ2 H2 O2 fp2 R2 (F'.trans F2)⟩
noncomputable def setIx (i : Nat) (m : M R) : MG := fun s ρ => match s with
  | .val d => (ρ[i]?).join.bind fun u => match u with
    | .own _ => (m ρ).bind fun x => (dr x.2 x.1).bind fun y => match y with
      | .val (.int k) => (x.2[i]?).join.bind fun w => match w with
        | .own ds => (ixN ds.length k).bind fun j => some (x.2.set i (some (.own (ds.set j d))))
        | _ => none
      | _ => none
    | _ => none
  | _ => none
theorem qg_ix {i : Nat} {m : M R} (ho : PE X a (tVar i)) (hi : QE X b m)
    (ha : ∀ v, assign (.Subscript a b pos) X.env v = (do
      let ov ← holding [v] (eval a X.env)
      let iv ← holding [v, ov] (eval b X.env)
      standAt pos
      holding [v, ov, iv] (setItem ov iv v)
      release [v, ov, iv] []) := by intro _; rfl) : QG X (.Subscript a b pos) [] (setIx i m) :=
  (pg_sub ho hi set_list ha).imp fun v σ H Q ⟨B, ρ, O, fp, s, ρ', R, hs, hg, k⟩ => by
    cases s with
    | val d =>
      obtain ⟨u, q1, hg⟩ := bind_some hg
      cases u with
      | own ds0 =>
        obtain ⟨⟨x, ρ1⟩, q2, hg⟩ := bind_some hg
        obtain ⟨y, q3, hg⟩ := bind_some hg
        cases y with
        | val dy =>
          cases dy with
          | int kk =>
            obtain ⟨w, q4, hg⟩ := bind_some hg
            cases w with
            | own ds =>
              obtain ⟨j, q5, hg⟩ := bind_some hg
              cases hg
              obtain ⟨vo, e1, p, vs0, rfl, _⟩ := R.slot i _ (join_some q1)
              refine ⟨.ref p, e1, B, ρ, O, fp, x, ρ1, R, q2, fun iv H1 O1 fp1 R1 k1 F1 => ?_⟩
              obtain ⟨g, hy, _⟩ := R1.dr k1 q3
              have e2 : iv = .int kk := hy
              subst e2
              obtain ⟨vo', e3, p', vs, e4, h4, h5, h6⟩ := R1.slot i _ (join_some q4)
              rw [e1] at e3; cases e3; cases e4
              have hd : Is X.K H1 d v := hs.1.tk (F1.tk R.lst)
              refine ⟨p, vs, kk, j, rfl, rfl, h4, by rw [h5.length]; exact q5, ?_⟩
              obtain ⟨R2, F2⟩ := R1.upd (join_some q4) e1 (h5.set hd j)
              exact k σ _ O1 fp1 Agr.refl R2 (F1.trans F2)
            | _ => cases hg
          | _ => cases hg
        | _ => cases hg
      | _ => cases hg
    | _ => cases hg
noncomputable def ownAt (ρ : En) (i : Nat) : Option (List D) := (ρ[i]?).join.bind fun s => match s with
  | .own ds => some ds
  | _ => none
theorem ownAt_of {i : Nat} {ds : List D} (h : ownAt ρ i = some ds) : ρ[i]? = some (some (.own ds)) := by
  obtain ⟨s, q, e⟩ := bind_some h
  cases s with
  | own es => cases e; exact join_some q
  | _ => cases e
noncomputable def mMeth (i : Nat) (g : List D → List Slot → Option (D × List D)) (args : M (List R)) : M R := fun ρ => (ownAt ρ i).bind fun _ => (args ρ).bind fun x => (drs x.2 x.1).bind fun ss => (ownAt x.2 i).bind fun ds =>
  (g ds ss).bind fun y => some (.of (.val y.1), x.2.set i (some (.own y.2)))
end
end Mi
namespace Mi
open PySem L2
variable {K : PySem.W.Frag} {H H' : Hp} {O O' : Addr → Prop} {fp fp' : Nat → List Addr} {B : Hp} {ρ ρ' : En} {σ : St}
section
variable {X : Cx} {e a b : Expr} {es : List Expr} {st : Stmt} {rest : List Stmt} {pos apos cpos : Pos} {name : Str}
noncomputable def MR' (K : PySem.W.Frag) (g : List D → List Slot → Option (D × List D)) (r : V → List V → Hp → VK → Prop) : Prop :=
  ∀ H p vs ds ss xs d ds' Q, H p = some (.lst vs) → IsL K H ds vs → RdL K H ss xs → g ds ss = some (d, ds') →
    (∀ v us, IsL K H ds' us → (∀ us', Is K (upd H p (.lst us')) d v) → Q v (upd H p (.lst us))) → r (.ref p) xs H Q
theorem meth_of {i : Nat} {g : List D → List Slot → Option (D × List D)} {m : M (List R)} {r : V → List V → Hp → VK → Prop} (hm : MR' K g r) {σ : St} {H : Hp} {Q : VK} (h : tQ K (mMeth i g m) σ H Q) :
    tBM K "list" r (tVar i) (tQL K m) σ H Q := by
  obtain ⟨B, ρ, O, fp, x, ρ', R, hf, k⟩ := h
  obtain ⟨ds0, q0, hf⟩ := bind_some hf
  obtain ⟨⟨rs, ρ1⟩, q1, hf⟩ := bind_some hf
  obtain ⟨ss, q2, hf⟩ := bind_some hf
  obtain ⟨ds, q3, hf⟩ := bind_some hf
  obtain ⟨⟨d, ds'⟩, q4, hf⟩ := bind_some hf
  cases hf
  obtain ⟨vo, e1, p, vs0, rfl, h0, _⟩ := R.slot i _ (ownAt_of q0)
  refine ⟨.ref p, e1, .inl ⟨rfl, vs0, SqL.of h0⟩, B, ρ, O, fp, rs, ρ1, R, q1, fun xs H1 O1 fp1 R1 k1 F1 => ?_⟩
  obtain ⟨vo', e3, p', vs, e4, h4, h5, h6⟩ := R1.slot i _ (ownAt_of q3)
  rw [e1] at e3; cases e3; cases e4
  refine hm H1 p vs ds ss xs d ds' Q h4 h5 (ResL.rd R1 k1 q2) q4 fun v us hl hv => ?_
  obtain ⟨R2, F2⟩ := R1.upd (ownAt_of q3) e1 hl
  exact k v _ O1 fp1 R2 ⟨[], ⟨hv us, rfl⟩, List.nodup_nil, fun a z => by simp at z⟩ (F1.trans F2)
theorem q_meth {i : Nat} {id : String} {g : List D → List Slot → Option (D × List D)} {m : M (List R)} {r : V → List V → Hp → VK → Prop} (pa : PlainAttrs "list") (slot : PySem.Slot "list" name id) (hty : typeOf (.builtin id) = pure (.type "method_descriptor")) (hm : MtR X id r) (hw : MR' X.K g r)
    (ho : PE X a (tVar i)) (ha : QA X (e :: es) m)
    (hbase : attributeBase a name X.env (eval a X.env) = eval a X.env := by rfl)
    (hfew : ((backTo cpos (starEach (e :: es) X.env)).all (fun x => !x.1) && (backToKw cpos (keywordEach [] X.env)).all (fun x => x.1.isSome)
      && decide ((e :: es).length + ([] : List Keyword).length + (if ([] : List Keyword).isEmpty then 0 else 1) < 30)) = true := by rfl)
    (hline : (apos.endLine == cpos.line) = true := by rfl) (hs : starEach (e :: es) X.env = (false, eval e X.env) :: starEach es X.env := by rfl) (hplain : (backTo cpos (starEach es X.env)).any (·.1) = false := by rfl) :
    QE X (.Call (.Attribute a name apos) (e :: es) [] cpos) (mMeth i g m) :=
  (pe_bm pa slot hty hm ho ha hbase hfew hline hs hplain).imp fun σ H Q h => meth_of hw h
theorem q_meth0 {i : Nat} {id : String} {g : List D → List Slot → Option (D × List D)} {r : V → List V → Hp → VK → Prop} (pa : PlainAttrs "list") (slot : PySem.Slot "list" name id) (hty : typeOf (.builtin id) = pure (.type "method_descriptor")) (hm : MtR X id r) (hw : MR' X.K g r)
    (ho : PE X a (tVar i)) (hbase : attributeBase a name X.env (eval a X.env) = eval a X.env := by rfl) (hline : (apos.endLine == cpos.line) = true := by rfl) :
    QE X (.Call (.Attribute a name apos) [] [] cpos) (mMeth i g mNil) :=
  (pe_bm0 pa slot hty hm ho hbase hline).imp fun σ H Q h => by
    obtain ⟨v, e1, ty, B, ρ, O, fp, rs, ρ1, R, q1, k⟩ := meth_of hw h
    cases q1
    exact ⟨v, e1, ty, k [] H O fp R rfl Fr.refl⟩
noncomputable def big : Nat := 1000000
theorem big_line {n : Nat} (h : n < big) : n < sizeLine := Nat.lt_trans h (by decide)
theorem big_63 {n : Nat} (h : n < big) : (n : Int) < 2 ^ 63 := by have : (big : Int) < 2 ^ 63 := by decide
                                                                  omega
noncomputable def gAppend : List D → List Slot → Option (D × List D) := fun ds ss => match ss with
  | [.val d] => if ds.length < big then some (.non, ds ++ [d]) else none
  | _ => none
theorem mr_append : MR' K gAppend rAppend := fun H p vs ds ss xs d ds' Q hp hl hr hg k => by
  unfold gAppend at hg
  split at hg
  · rename_i y
    obtain ⟨v, us, rfl, hv, hu⟩ := hr
    have hu : us = [] := hu
    subst hu
    have hg' := hg
    by_cases z : ds.length < big
    · rw [if_pos z] at hg'
      cases hg'
      exact ⟨p, vs, v, rfl, rfl, hp, by rw [hl.length]; exact big_line z, k .non _ (hl.append (.cons hv.1 .nil)) fun _ => rfl⟩
    · rw [if_neg z] at hg'; cases hg'
  · cases hg
noncomputable def gPopAt : List D → List Slot → Option (D × List D) := fun ds ss => match ss with
  | [.val (.int k)] => if ds.length < big then (ixN ds.length k).bind fun j => (ds[j]?).bind fun d => some (d, ds.eraseIdx j) else none
  | _ => none
theorem mr_popAt : MR' K gPopAt rPopAt := fun H p vs ds ss xs d ds' Q hp hl hr hg k => by
  unfold gPopAt at hg
  split at hg
  · rename_i i
    obtain ⟨v, us, rfl, hv, hu⟩ := hr
    have hu : us = [] := hu
    have hv : v = .int i := hv.1
    subst hu hv
    have hg' := hg
    by_cases z : ds.length < big
    · rw [if_pos z] at hg'
      obtain ⟨j, h1, hg'⟩ := bind_some hg'
      obtain ⟨y, h2, hg'⟩ := bind_some hg'
      cases hg'
      obtain ⟨s1, s2, s3, s4⟩ := ixN_seq h1
      obtain ⟨u, g1, g2⟩ := hl.get h2
      have b := big_63 z
      refine ⟨p, vs, i, j, u, rfl, rfl, hp, by omega, by omega, by rw [hl.length]; exact s1, g1, k u _ (hl.eraseIdx j) fun us' => g2.tk (tk_upd hp)⟩
    · rw [if_neg z] at hg'; cases hg'
  · cases hg
noncomputable def gRev : List D → List Slot → Option (D × List D) := fun ds ss => match ss with
  | [] => some (.non, ds.reverse)
  | _ => none
theorem mr_rev : MR' K gRev rReverse := fun H p vs ds ss xs d ds' Q hp hl hr hg k => by
  unfold gRev at hg
  split at hg
  · skip
    have hr : xs = [] := hr
    subst hr
    cases hg
    exact ⟨p, vs, rfl, rfl, hp, k .non _ hl.reverse fun _ => rfl⟩
  · cases hg
noncomputable def vals : List Slot → Option (List D)
  | [] => some []
  | .val d :: r => (vals r).bind fun ds => some (d :: ds)
  | _ => none
theorem vals_is : ∀ {ss : List Slot} {vs : List V} {ds : List D}, RdL K H ss vs → vals ss = some ds → IsL K H ds vs
  | [], vs, ds, h, e => by cases e; exact h
  | .val d :: r, vs, ds, h, e => by
    obtain ⟨v, us, rfl, h1, h2⟩ := h
    obtain ⟨es, q, e⟩ := bind_some e
    cases e
    exact .cons h1.1 (vals_is h2 q)
  | .fz _ :: r, vs, ds, h, e => by cases e
  | .fz2 _ :: r, vs, ds, h, e => by cases e
  | .own _ :: r, vs, ds, h, e => by cases e
  | .own2 _ :: r, vs, ds, h, e => by cases e
theorem same_new {H : Hp} {p : Addr} (h : H p = none) (o : HO) : Same H (upd H p o) := fun b u q => by rw [upd_ne (ne_of_none q h)]; exact q
noncomputable def gTup' : List Slot → Option Slot := fun ss => if ss.length < big then (vals ss).bind fun ds => some (.val (.tup ds)) else none
noncomputable def gLst' : List Slot → Option Slot := fun ss => if ss.length < big then (vals ss).bind fun ds => some (.own ds) else none
theorem sr_tup : SR K gTup' (fun vs H Q => vs.length ≤ sizeLine ∧ ∀ p, H p = none → Q (.ref p) (upd H p (.tup vs))) := fun H ss vs s Q hr hg k => by
  have hg' : (if ss.length < big then (vals ss).bind fun ds => some (Slot.val (.tup ds)) else none) = some s := hg
  by_cases z : ss.length < big
  · rw [if_pos z] at hg'
    obtain ⟨ds, q, e⟩ := bind_some hg'
    cases e
    refine ⟨by rw [hr.length]; exact Nat.le_of_lt (big_line z), fun p hp => ?_⟩
    have e := same_new hp (.tup vs)
    exact k _ _ e ⟨p, vs, rfl, SqT.of upd_same, (vals_is hr q).tk (Tk.same e)⟩
  · rw [if_neg z] at hg'; cases hg'
theorem sr_lst : SR K gLst' (fun vs H Q => vs.length ≤ sizeLine ∧ ∀ p, H p = none → Q (.ref p) (upd H p (.lst vs))) := fun H ss vs s Q hr hg k => by
  have hg' : (if ss.length < big then (vals ss).bind fun ds => some (Slot.own ds) else none) = some s := hg
  by_cases z : ss.length < big
  · rw [if_pos z] at hg'
    obtain ⟨ds, q, e⟩ := bind_some hg'
    cases e
    refine ⟨by rw [hr.length]; exact Nat.le_of_lt (big_line z), fun p hp => ?_⟩
    have e := same_new hp (.lst vs)
    exact k p vs _ e hp upd_same ((vals_is hr q).tk (Tk.same e))
  · rw [if_neg z] at hg'; cases hg'
theorem q_tup {x1 : Nat} {f : M (List R)} (h : QA X es f) : QE X (.Tuple es x1 pos) (mOpF gTup' f) := q_opN sr_tup (pe_tup h)
theorem q_lst {f : M (List R)} (h : QA X es f) : QE X (.List es pos) (mOpF gLst' f) := q_opN sr_lst (pe_lst h)
noncomputable def gI (C : Int → Int → Bool) (g : Int → Int → D) : List Slot → Option Slot := fun ss => match ss with
  | [.val (.int i), .val (.int j)] => if C i j = true then some (.val (g i j)) else none
  | _ => none
theorem gI_of {C : Int → Int → Bool} {g : Int → Int → D} {ss : List Slot} {s : Slot} (h : gI C g ss = some s) : ∃ i j, ss = [.val (.int i), .val (.int j)] ∧ C i j = true ∧ s = .val (g i j) := by
  unfold gI at h
  split at h
  · rename_i i j
    by_cases z : C i j = true
    · rw [if_pos z] at h; cases h; exact ⟨i, j, rfl, z, rfl⟩
    · rw [if_neg z] at h; cases h
  · cases h
theorem rd2 {x y : D} {vs : List V} (h : RdL K H [.val x, .val y] vs) : ∃ u v, vs = [u, v] ∧ Is K H x u ∧ Is K H y v := by
  obtain ⟨v, us, rfl, h1, u, ws, rfl, h2, h3⟩ := h
  have h3 : ws = [] := h3
  subst h3
  exact ⟨v, u, rfl, h1.1, h2.1⟩
theorem sr_I {C : Int → Int → Bool} {P : Int → Int → Prop} {g : Int → Int → D} {gv : Int → Int → V} (hC : ∀ i j, C i j = true → P i j) (hg : ∀ H i j, Is K H (g i j) (gv i j)) : SR K (gI C g) (r2 (rI P gv)) := fun H ss vs s Q hr h k => by
  obtain ⟨i, j, rfl, hc, rfl⟩ := gI_of h
  obtain ⟨u, v, rfl, h1, h2⟩ := rd2 hr
  have h1 : u = .int i := h1
  have h2 : v = .int j := h2
  exact ⟨u, v, rfl, i, j, h1, h2, hC i j hc, k _ H (Same.refl H) (hg H i j)⟩
noncomputable def yes2 : Int → Int → Bool := fun _ _ => true
theorem sr_I0 {g : Int → Int → D} {gv : Int → Int → V} (hg : ∀ H i j, Is K H (g i j) (gv i j)) : SR K (gI yes2 g) (r2 (rI0 gv)) := fun H ss vs s Q hr h k => by
  obtain ⟨i, j, rfl, hc, rfl⟩ := gI_of h
  obtain ⟨u, v, rfl, h1, h2⟩ := rd2 hr
  have h1 : u = .int i := h1
  have h2 : v = .int j := h2
  exact ⟨u, v, rfl, i, j, h1, h2, k _ H (Same.refl H) (hg H i j)⟩
noncomputable def cMul : Int → Int → Bool := fun i j => (decide (-(2 ^ 64) < i) && decide (i < 2 ^ 64)) || (decide (-(2 ^ 64) < j) && decide (j < 2 ^ 64))
noncomputable def cDiv : Int → Int → Bool := fun _ j => decide (0 < j) && decide (j < 1073741824)
noncomputable def cMod : Int → Int → Bool := fun _ j => decide (0 < j)
noncomputable def cPow : Int → Int → Bool := fun i j => decide (0 ≤ j) && decide (j ≤ 1000000) && decide (i.natAbs < 2 ^ 64)
noncomputable def gAdd := gI yes2 fun i j => .int (i + j)
noncomputable def gSub := gI yes2 fun i j => .int (i - j)
noncomputable def gMul := gI cMul fun i j => .int (i * j)
noncomputable def gDiv := gI cDiv fun i j => .int (i / j)
noncomputable def gMod := gI cMod fun i j => .int (i % j)
noncomputable def gPow := gI cPow fun i j => .int (i ^ j.toNat)
noncomputable def gLt := gI yes2 fun i j => .bl (decide (i < j))
noncomputable def gGt := gI yes2 fun i j => .bl (decide (j < i))
noncomputable def gGe := gI yes2 fun i j => .bl (decide (j ≤ i))
variable {f g : M R}
theorem q_add (ha : QE X a f) (hb : QE X b g) : QE X (.BinOp a .Add b pos) (mOpF gAdd (mCons f (mCons g mNil))) := q_bin op_add (sr_I0 fun _ _ _ => rfl) ha hb
theorem q_sub (ha : QE X a f) (hb : QE X b g) : QE X (.BinOp a .Sub b pos) (mOpF gSub (mCons f (mCons g mNil))) := q_bin op_sub (sr_I0 fun _ _ _ => rfl) ha hb
theorem q_mul (ha : QE X a f) (hb : QE X b g) : QE X (.BinOp a .Mult b pos) (mOpF gMul (mCons f (mCons g mNil))) := q_bin op_mul (sr_I (fun i j h => by
  simp only [cMul, Bool.or_eq_true, Bool.and_eq_true, decide_eq_true_eq] at h; exact h) fun _ _ _ => rfl) ha hb
theorem q_div (ha : QE X a f) (hb : QE X b g) : QE X (.BinOp a .FloorDiv b pos) (mOpF gDiv (mCons f (mCons g mNil))) := q_bin op_fdiv (sr_I (fun i j h => by
  simp only [cDiv, Bool.and_eq_true, decide_eq_true_eq] at h; exact h) fun _ _ _ => rfl) ha hb
theorem q_mod (ha : QE X a f) (hb : QE X b g) : QE X (.BinOp a .Mod b pos) (mOpF gMod (mCons f (mCons g mNil))) := q_bin op_mod (sr_I (fun i j h => by
  simp only [cMod, decide_eq_true_eq] at h; exact h) fun _ _ _ => rfl) ha hb
theorem q_pow (ha : QE X a f) (hb : QE X b g) : QE X (.BinOp a .Pow b pos) (mOpF gPow (mCons f (mCons g mNil))) := q_bin op_pow (sr_I (fun i j h => by
  simp only [cPow, Bool.and_eq_true, decide_eq_true_eq] at h; exact ⟨h.1.1, h.1.2, h.2⟩) fun _ _ _ => rfl) ha hb
theorem q_gt (ha : QE X a f) (hb : QE X b g) : QE X (.Compare a [.Gt] [b] pos) (mOpF gGt (mCons f (mCons g mNil))) := q_cmp op_gt (sr_I0 fun _ _ _ => rfl) ha hb (nomark _)
theorem qt_lt (ha : QE X a f) (hb : QE X b g) : QT X (.Compare a [.Lt] [b] pos) (mTru (mOpF gLt (mCons f (mCons g mNil)))) := qt_cmp op_lt (sr_I0 fun _ _ _ => rfl) ha hb (nomark _)
theorem qt_gt (ha : QE X a f) (hb : QE X b g) : QT X (.Compare a [.Gt] [b] pos) (mTru (mOpF gGt (mCons f (mCons g mNil)))) := qt_cmp op_gt (sr_I0 fun _ _ _ => rfl) ha hb (nomark _)
theorem qt_ge (ha : QE X a f) (hb : QE X b g) : QT X (.Compare a [.GtE] [b] pos) (mTru (mOpF gGe (mCons f (mCons g mNil)))) := qt_cmp op_ge (sr_I0 fun _ _ _ => rfl) ha hb (nomark _)
noncomputable def gNeg : List Slot → Option Slot := fun ss => match ss with
  | [.val (.int i)] => some (.val (.int (-i)))
  | _ => none
theorem q_neg (ha : QE X a f) : QE X (.UnaryOp .USub a pos) (mOpF gNeg (mCons f mNil)) := q_un un_neg (fun H ss vs s Q hr h k => by
  unfold gNeg at h
  split at h
  · rename_i i
    obtain ⟨v, us, rfl, h1, h2⟩ := hr
    have h2 : us = [] := h2
    have h1 : v = .int i := h1.1
    subst h2 h1
    cases h
    exact ⟨_, rfl, i, rfl, k _ H (Same.refl H) rfl⟩
  · cases h) ha
noncomputable def gIx : List Slot → Option Slot := fun ss => match ss with
  | [.val (.tup ds), .val (.int k)] => (atI ds k).bind fun d => some (.val d)
  | [.fz ds, .val (.int k)] => (atI ds k).bind fun d => some (.val d)
  | _ => none
theorem atI_is {ds : List D} {vs : List V} {k : Int} {d : D} (l : IsL K H ds vs) (h : atI ds k = some d) : ∃ v, atI vs k = some v ∧ Is K H d v := by
  obtain ⟨j, h1, h2⟩ := bind_some h
  obtain ⟨v, h3, h4⟩ := l.get h2
  refine ⟨v, ?_, h4⟩
  unfold atI
  rw [l.length, h1]
  exact h3
theorem sr_ix : SR K gIx (r2 (rIx K)) := fun H ss vs s Q hr h k => by
  unfold gIx at h
  split at h
  · rename_i ds i
    obtain ⟨d, h1, h⟩ := bind_some h
    cases h
    obtain ⟨u, v, rfl, ⟨a, ws, rfl, q, l⟩, h2⟩ := rd2 hr
    have h2 : v = .int i := h2
    obtain ⟨w, h3, h4⟩ := atI_is l h1
    exact ⟨_, v, rfl, .inr (.inl ⟨a, ws, i, w, rfl, h2, q, h3, k w H (Same.refl H) h4⟩)⟩
  · rename_i ds i
    obtain ⟨d, h1, h⟩ := bind_some h
    cases h
    obtain ⟨u, us, rfl, ⟨⟨a, ws, rfl, q, l⟩, _⟩, v, us', rfl, h2, h3⟩ := hr
    have h3 : us' = [] := h3
    have h2 : v = .int i := h2.1
    subst h3 h2
    obtain ⟨w, h3, h4⟩ := atI_is l h1
    exact ⟨_, _, rfl, .inl ⟨a, ws, i, w, rfl, rfl, q.sq, h3, k w H (Same.refl H) h4⟩⟩
  · cases h
theorem q_item (ha : QE X a f) (hb : QE X b g) (hs : PlainIx b) : QE X (.Subscript a b pos) (mOpF gIx (mCons f (mCons g mNil))) := q_ix ix_seq sr_ix ha hb hs
noncomputable def gLen : List Slot → Option Slot := fun ss => match ss with
  | [.val (.tup ds)] => some (.val (.int ds.length))
  | [.fz ds] => some (.val (.int ds.length))
  | [.fz2 dss] => some (.val (.int dss.length))
  | _ => none
theorem FzL.length : ∀ {dss : List (List D)} {vs : List V}, FzL K H O dss vs → vs.length = dss.length
  | [], _, h => by have h' : _ = [] := h; subst h'; rfl
  | ds :: dss, vs, h => by
    obtain ⟨a, us, r, rfl, _, _, l⟩ := h
    rw [List.length_cons, List.length_cons, FzL.length l]
theorem sr_len : SR K gLen (fun xs H Q => ∃ p ys, xs = [.ref p] ∧ (SqL K H p ys ∨ SqT K H p ys) ∧ Q (.int ys.length) H) := fun H ss vs s Q hr h k => by
  unfold gLen at h
  split at h
  · rename_i ds
    obtain ⟨v, us, rfl, ⟨⟨a, ws, rfl, q, l⟩, _⟩, h2⟩ := hr
    have h2 : us = [] := h2
    subst h2
    cases h
    exact ⟨a, ws, rfl, .inr q, k _ H (Same.refl H) (by rw [l.length]; exact rfl)⟩
  · rename_i ds
    obtain ⟨v, us, rfl, ⟨⟨a, ws, rfl, q, l⟩, _⟩, h2⟩ := hr
    have h2 : us = [] := h2
    subst h2
    cases h
    exact ⟨a, ws, rfl, .inl q.sq, k _ H (Same.refl H) (by rw [l.length]; exact rfl)⟩
  · rename_i ds
    obtain ⟨v, us, rfl, ⟨⟨a, ws, rfl, q, l⟩, _⟩, h2⟩ := hr
    have h2 : us = [] := h2
    subst h2
    cases h
    exact ⟨a, ws, rfl, .inl q.sq, k _ H (Same.refl H) (by rw [l.length]; exact rfl)⟩
  · cases h
noncomputable def gList : List Slot → Option Slot := fun ss => match ss with
  | [.val (.tup ds)] => some (.own ds)
  | [.fz ds] => some (.own ds)
  | _ => none
theorem sr_list : SR K gList (fun xs H Q => ∃ p ys, xs = [.ref p] ∧ (SqL K H p ys ∨ SqT K H p ys) ∧ ∀ l, H l = none → Q (.ref l) (upd H l (.lst ys))) := fun H ss vs s Q hr h k => by
  unfold gList at h
  split at h
  · rename_i ds
    obtain ⟨v, us, rfl, ⟨⟨a, ws, rfl, q, l⟩, _⟩, h2⟩ := hr
    have h2 : us = [] := h2
    subst h2
    cases h
    exact ⟨a, ws, rfl, .inr q, fun p hp => k p ws _ (same_new hp _) hp upd_same (l.tk (Tk.same (same_new hp _)))⟩
  · rename_i ds
    obtain ⟨v, us, rfl, ⟨⟨a, ws, rfl, q, l⟩, _⟩, h2⟩ := hr
    have h2 : us = [] := h2
    subst h2
    cases h
    exact ⟨a, ws, rfl, .inl q.sq, fun p hp => k p ws _ (same_new hp _) hp upd_same (l.tk (Tk.same (same_new hp _)))⟩
  · cases h
noncomputable def gTuple : List Slot → Option Slot := fun ss => match ss with
  | [.val (.tup ds)] => some (.val (.tup ds))
  | [.fz ds] => some (.val (.tup ds))
  | _ => none
theorem sr_tuple : SR K gTuple (fun xs H Q => ∃ p ys, xs = [.ref p] ∧ ((SqL K H p ys ∧ ∀ l, H l = none → Q (.ref l) (upd H l (.tup ys))) ∨ (SqT K H p ys ∧ Q (.ref p) H))) := fun H ss vs s Q hr h k => by
  unfold gTuple at h
  split at h
  · rename_i ds
    obtain ⟨v, us, rfl, ⟨⟨a, ws, rfl, q, l⟩, _⟩, h2⟩ := hr
    have h2 : us = [] := h2
    subst h2
    cases h
    exact ⟨a, ws, rfl, .inr ⟨q, k _ H (Same.refl H) ⟨a, ws, rfl, q, l⟩⟩⟩
  · rename_i ds
    obtain ⟨v, us, rfl, ⟨⟨a, ws, rfl, q, l⟩, _⟩, h2⟩ := hr
    have h2 : us = [] := h2
    subst h2
    cases h
    exact ⟨a, ws, rfl, .inl ⟨q.sq, fun p hp => k _ _ (same_new hp _) ⟨p, ws, rfl, SqT.of upd_same, l.tk (Tk.same (same_new hp _))⟩⟩⟩
  · cases h
noncomputable def gInt : List Slot → Option Slot := fun ss => match ss with
  | [.val (.int i)] => some (.val (.int i))
  | [.val (.bl b)] => some (.val (.int (if b then 1 else 0)))
  | _ => none
theorem sr_int : SR K gInt (fun xs H Q => (∃ i, xs = [.int i] ∧ Q (.int i) H) ∨ ∃ k, xs = [.bl k] ∧ Q (.int (if k then 1 else 0)) H) := fun H ss vs s Q hr h k => by
  unfold gInt at h
  split at h
  · rename_i i
    obtain ⟨v, us, rfl, h1, h2⟩ := hr
    have h2 : us = [] := h2
    have h1 : v = .int i := h1.1
    subst h2 h1
    cases h
    exact .inl ⟨i, rfl, k _ H (Same.refl H) rfl⟩
  · rename_i i
    obtain ⟨v, us, rfl, h1, h2⟩ := hr
    have h2 : us = [] := h2
    have h1 : v = .bl i := h1.1
    subst h2 h1
    cases h
    exact .inr ⟨i, rfl, k _ H (Same.refl H) rfl⟩
  · cases h
end
end Mi
namespace Mi
open PySem L2
variable {K : PySem.W.Frag} {H H' : Hp} {O O' : Addr → Prop} {fp fp' : Nat → List Addr} {B : Hp} {ρ ρ' : En} {σ : St}
structure Walk (K : PySem.W.Frag) (J : It) (its : List Slot) (H1 : Hp) (O1 : Addr → Prop) (fp1 : Nat → List Addr) : Prop where
  go : ∀ H O fp, Fr H1 O1 fp1 H O fp → ∀ i s, its[i]? = some s → J.go i H ∧ ∀ x H', J.yld i H x H' → Same H H' ∧ SlotOk K H' O s x []
  stop : ∀ H O fp, Fr H1 O1 fp1 H O fp → J.stop its.length H
noncomputable def tQI (K : PySem.W.Frag) (f : M (List Slot)) : TI := fun σ H R => ∃ B ρ O fp its ρ', Rel K B ρ σ H O fp ∧ f ρ = some (its, ρ') ∧
  ∀ J H' O' fp', Rel K B ρ' σ H' O' fp' → Fr H O fp H' O' fp' → Walk K J its H' O' fp' → R J H'
noncomputable abbrev QI (X : Cx) (tg e : Expr) (f : M (List Slot)) : Prop := PI X tg e (tQI X.K f)
theorem _root_.L2.PI.imp {X : Cx} {tg e : Expr} {t t' : TI} (h : PI X tg e t) (w : ∀ σ H R, t' σ H R → t σ H R) : PI X tg e t' := fun pins s σ H R I q => h pins s σ H R I (w σ H R q)
noncomputable def forL (tg : MG) (body : MS) : List Slot → MS
  | [] => fun ρ => some (.nx ρ)
  | s :: r => fun ρ => (tg s ρ).bind fun ρ1 => (body ρ1).bind fun o => match o with
    | .nx ρ2 => forL tg body r ρ2
    | .ct ρ2 => forL tg body r ρ2
    | .bk ρ2 => some (.nx ρ2)
    | .rt s => some (.rt s)
noncomputable def sFor (tg : MG) (it : M (List Slot)) (body : MS) : MS := fun ρ => (it ρ).bind fun x => forL tg body x.1 x.2
section
variable {X : Cx} {e a b tg iter : Expr} {st : Stmt} {rest body : List Stmt} {pos : Pos}
theorem for_of {D : Ends} {ks : List Nat} {it : M (List Slot)} {g : MG} {m : MS} {σ : St} {H : Hp} (h : tQS K (sFor g it m) D σ H) : tFor (tQI K it) (tQG K ks g) (tQS K m) D σ H := by
  obtain ⟨B, ρ, O, fp, o, R, hg, k⟩ := h
  obtain ⟨⟨its, ρ1⟩, h1, hg⟩ := bind_some hg
  refine ⟨B, ρ, O, fp, its, ρ1, R, h1, fun J H1 O1 fp1 R1 F1 W1 => ?_⟩
  refine ⟨fun i m' σ' H' => m' = its.length - i ∧ i ≤ its.length ∧ ∃ ρ' O' fp', Rel K B ρ' σ' H' O' fp' ∧ Fr H1 O1 fp1 H' O' fp' ∧ forL g m (its.drop i) ρ' = some o, ⟨its.length, by simp, Nat.zero_le _, ρ1, O1, fp1, R1, Fr.refl, hg⟩, ?_⟩
  rintro i m' σ' H' ⟨rfl, hi, ρ', O', fp', R', F', e'⟩
  by_cases hlt : i < its.length
  · right
    have hd : its.drop i = its[i] :: its.drop (i + 1) := List.drop_eq_getElem_cons hlt
    rw [hd] at e'
    obtain ⟨ρ2, q2, e'⟩ := bind_some e'
    obtain ⟨ob, q3, e'⟩ := bind_some e'
    obtain ⟨g1, g2⟩ := W1.go H' O' fp' F' i its[i] (by simp [hlt])
    refine ⟨g1, fun σ2 H2 => ∃ ρ' O' fp', Rel K B ρ' σ2 H2 O' fp' ∧ Fr H1 O1 fp1 H2 O' fp' ∧ forL g m (its.drop (i + 1)) ρ' = some o, fun σ2 H2 h => ⟨its.length - (i + 1), by omega, rfl, hlt, h⟩, fun x H2 y => ?_⟩
    obtain ⟨sm, sl⟩ := g2 x H2 y
    refine ⟨B, ρ', O', fp', its[i], ρ2, R'.grow sm, sl, q2, fun σ3 H3 O3 fp3 _ R3 F3 => ⟨B, ρ2, O3, fp3, ob, R3, q3, ?_⟩⟩
    have F4 : Fr H1 O1 fp1 H3 O3 fp3 := F'.trans ((Fr.grow R' sm).trans F3)
    cases ob with
    | nx ρ4 => exact fun σ4 H4 O4 fp4 R4 F5 => ⟨ρ4, O4, fp4, R4, F4.trans F5, e'⟩
    | ct ρ4 => exact fun σ4 H4 O4 fp4 R4 F5 => ⟨ρ4, O4, fp4, R4, F4.trans F5, e'⟩
    | bk ρ4 =>
      cases e'
      exact fun σ4 H4 O4 fp4 R4 F5 => k σ4 H4 O4 fp4 R4 (F1.trans (F4.trans F5))
    | rt s =>
      cases e'
      exact k
  · left
    have e : i = its.length := by omega
    subst e
    rw [List.drop_length] at e'
    cases e'
    exact ⟨W1.stop H' O' fp' F', k σ' H' O' fp' R' (F1.trans F')⟩
theorem qs_for {it : M (List Slot)} {ks : List Nat} {g : MG} {m : MS} (hp : PassesOwn (model X.prog X.w) X.A X.env X.xe) (hc : X.calm = true) (hi : QI X tg iter it) (hg : QG X tg ks g) (hb : QSs X body m)
    (hs : ∀ x, foldedSetIterable iter X.env x = pure x := by intro _; rfl) : QS X (.For tg iter body [] pos) (sFor g it m) := (ps_for hp hc hi hg hb hs).imp fun D σ H h => for_of h
noncomputable def sWhile (c : M Bool) (body : MS) : Nat → MS
  | 0 => fun _ => none
  | n + 1 => fun ρ => (c ρ).bind fun x => if x.1 = true then (body x.2).bind fun o => match o with
      | .nx ρ2 => sWhile c body n ρ2
      | .ct ρ2 => sWhile c body n ρ2
      | .bk ρ2 => some (.nx ρ2)
      | .rt s => some (.rt s)
    else some (.nx x.2)
theorem while_of {D : Ends} {c : M Bool} {m : MS} {n : Nat} {σ : St} {H : Hp} (h : tQS K (sWhile c m n) D σ H) : tWhile (tQT K c) (tQS K m) D σ H := by
  obtain ⟨B, ρ, O, fp, o, R, hg, k⟩ := h
  refine ⟨fun n' σ' H' => ∃ ρ' O' fp', Rel K B ρ' σ' H' O' fp' ∧ Fr H O fp H' O' fp' ∧ sWhile c m n' ρ' = some o, ⟨n, ρ, O, fp, R, Fr.refl, hg⟩, ?_⟩
  rintro n' σ' H' ⟨ρ', O', fp', R', F', e'⟩
  cases n' with
  | zero => cases e'
  | succ n' =>
    obtain ⟨⟨x, ρ1⟩, q1, e'⟩ := bind_some e'
    refine ⟨B, ρ', O', fp', x, ρ1, R', q1, fun H1 O1 fp1 R1 F1 => ?_⟩
    have F2 := F'.trans F1
    cases x with
    | true =>
      rw [if_pos rfl] at e'
      refine iteT ?_
      obtain ⟨ob, q3, e'⟩ := bind_some e'
      refine ⟨fun σ2 H2 => ∃ ρ' O' fp', Rel K B ρ' σ2 H2 O' fp' ∧ Fr H O fp H2 O' fp' ∧ sWhile c m n' ρ' = some o, fun σ2 H2 h => ⟨n', Nat.lt_succ_self _, h⟩, B, ρ1, O1, fp1, ob, R1, q3, ?_⟩
      cases ob with
      | nx ρ4 => exact fun σ4 H4 O4 fp4 R4 F5 => ⟨ρ4, O4, fp4, R4, F2.trans F5, e'⟩
      | ct ρ4 => exact fun σ4 H4 O4 fp4 R4 F5 => ⟨ρ4, O4, fp4, R4, F2.trans F5, e'⟩
      | bk ρ4 =>
        cases e'
        exact fun σ4 H4 O4 fp4 R4 F5 => k σ4 H4 O4 fp4 R4 (F2.trans F5)
      | rt s =>
        cases e'
        exact k
    | false =>
      rw [if_neg Bool.false_ne_true] at e'
      refine iteF ?_
      cases e'
      exact k σ' H1 O1 fp1 R1 F2
theorem qs_while {c : Expr} {f : M Bool} {m : MS} (n : Nat) (hp : PassesOwn (model X.prog X.w) X.A X.env X.xe) (hc : QT X c f) (hb : QSs X body m) : QS X (.While c body [] pos) (sWhile f m n) := (ps_while hp hc hb).imp fun D σ H h => while_of h
noncomputable def rangeD (lo : Int) (n : Nat) : List Slot := (List.range n).map fun (i : Nat) => .val (.int (lo + i))
theorem walk_range {lo : Int} {n : Nat} : Walk K (Itr lo n) (rangeD lo n) H O fp := by
  refine ⟨fun H O fp _ i s hs => ?_, fun H O fp _ => ?_⟩
  · unfold rangeD at hs
    rw [List.getElem?_map] at hs
    cases q : (List.range n)[i]? with
    | none => rw [q] at hs; cases hs
    | some j =>
      rw [q] at hs
      obtain ⟨h1, h2⟩ := List.getElem?_eq_some_iff.mp q
      rw [List.getElem_range] at h2
      subst h2
      rw [List.length_range] at h1
      cases hs
      refine ⟨h1, fun x H' ⟨e1, e2⟩ => ?_⟩
      subst e1 e2
      exact ⟨Same.refl _, rfl, rfl⟩
  · show n ≤ (rangeD lo n).length
    unfold rangeD
    rw [List.length_map, List.length_range]
    exact Nat.le_refl _
noncomputable def mRng1 (f : M (List R)) : M (List Slot) := fun ρ => (f ρ).bind fun x => (drs x.2 x.1).bind fun ss => match ss with
  | [.val (.int j)] => if -(2 ^ 62) ≤ j ∧ j < 2 ^ 62 then some (rangeD 0 j.toNat, x.2) else none
  | _ => none
variable {p : Pos}
theorem qi_range1 {f : M (List R)} (hg : Gl X "range") (hm : X.mg "range" = none) (ha : QA X [a] f) (hs : starEach [a] X.env = [(false, eval a X.env)] := by rfl) : QI X tg (.Call (.Name "range" p) [a] [] pos) (mRng1 f) :=
  (pi_range1 hg hm ha hs).imp fun σ H Rr ⟨B, ρ, O, fp, its, ρ', R, hf, k⟩ => by
    obtain ⟨⟨rs, ρ1⟩, h1, hf⟩ := bind_some hf
    obtain ⟨ss, h2, hf⟩ := bind_some hf
    split at hf
    · rename_i j
      split at hf
      · rename_i hj
        cases hf
        refine ⟨B, ρ, O, fp, rs, ρ1, R, h1, fun vs H1 O1 fp1 R1 k1 F1 => ?_⟩
        obtain ⟨v, us, rfl, hv, hu⟩ := ResL.rd R1 k1 h2
        have hu : us = [] := hu
        have hv : v = .int j := hv.1
        subst hu hv
        exact ⟨j, rfl, hj.1, hj.2, k _ H1 O1 fp1 R1 F1 walk_range⟩
      · cases hf
    · cases hf
theorem SqT.inj {X : Cx} {pins : List (Addr × Obj)} {σ : St} {H : Hp} {s : Shared} (I : Inv X pins σ H s) {a : Addr} {xs ys : List V} (h : SqT X.K H a xs) (h' : SqT X.K H a ys) : xs = ys := I.tuple_inj h h'
theorem walk_tup {a : Addr} {ds : List D} {vs : List V} (hl : ∀ b, O b → ∃ vs, H b = some (.lst vs)) (q : SqT K H a vs) (l : IsL K H ds vs) : Walk K (Itt K a) (ds.map Slot.val) H O fp := by
  refine ⟨fun H1 O1 fp1 F i s hs => ?_, fun H1 O1 fp1 F => ?_⟩
  · have t := F.tk hl
    have q1 := SqT.tk t q
    have l1 := l.tk t
    rw [List.getElem?_map] at hs
    cases e : ds[i]? with
    | none => rw [e] at hs; cases hs
    | some d =>
      rw [e] at hs
      cases hs
      obtain ⟨v, g1, g2⟩ := l1.get e
      refine ⟨⟨vs, v, q1, g1⟩, fun x H' ⟨e1, e2⟩ => ?_⟩
      subst e1
      have := e2 vs q1
      rw [g1] at this; cases this
      exact ⟨Same.refl _, g2, rfl⟩
  · exact ⟨vs, SqT.tk (F.tk hl) q, by rw [List.length_map, l.length]; exact Nat.le_refl _⟩
theorem walk_lst {a : Addr} {ds : List D} {vs : List V} (hl : ∀ b, O b → ∃ vs, H b = some (.lst vs)) (q : LsA K H O a vs ∨ (H a = some (.lst vs) ∧ fl O fp a)) (l : IsL K H ds vs) : Walk K (Itl K a) (ds.map Slot.val) H O fp := by
  have sq : ∀ H1 O1 fp1, Fr H O fp H1 O1 fp1 → SqL K H1 a vs := fun H1 O1 fp1 F => by
    rcases q with q | ⟨q, f1, f2⟩
    · exact (LsA.fr F hl q).sq
    · exact SqL.of ((F.flt a f1 f2).1.trans q)
  refine ⟨fun H1 O1 fp1 F i s hs => ?_, fun H1 O1 fp1 F => ?_⟩
  · have q1 := sq H1 O1 fp1 F
    have l1 := l.tk (F.tk hl)
    rw [List.getElem?_map] at hs
    cases e : ds[i]? with
    | none => rw [e] at hs; cases hs
    | some d =>
      rw [e] at hs
      cases hs
      obtain ⟨v, g1, g2⟩ := l1.get e
      refine ⟨⟨vs, v, q1, g1⟩, fun x H' ⟨e1, e2⟩ => ?_⟩
      subst e1
      have := e2 vs q1
      rw [g1] at this; cases this
      exact ⟨Same.refl _, g2, rfl⟩
  · exact ⟨vs, sq H1 O1 fp1 F, by rw [List.length_map, l.length]; exact Nat.le_refl _⟩
end
noncomputable def runF (n N : Nat) (g : MS) : List Slot → Option Slot := fun ss => if ss.length = n then
    (g (ss.map some ++ List.replicate (N - n) none)).bind fun o => match o with
      | .nx _ => some (.val .non)
      | .rt s => fresh s
      | _ => none
  else none
theorem start_rel {N : List Str} {ss : List Slot} {vs : List V} (h : RdL K H ss vs) : Rel K H (ss.map some ++ List.replicate (N.length - ss.length) none) (L2.start N vs) H O0 (fun _ => []) := by
  have hl := h.length
  refine ⟨?_, fun i s e => ?_, fun _ _ => rfl, fun _ _ _ z => by simp at z, fun _ => List.nodup_nil, fun _ _ z => by simp at z, fun _ z => z.elim, fun _ z => z.elim, fun _ _ z => z⟩
  · unfold L2.start
    simp [hl]
  · have hi : i < ss.length := by
      by_cases z : i < ss.length
      · exact z
      · rw [List.getElem?_append_right (by simpa using z), List.getElem?_replicate] at e
        split at e <;> cases e
    rw [List.getElem?_append_left (by simpa using hi), List.getElem?_map] at e
    have go : ∀ {ss : List Slot} {vs : List V} {i : Nat} {s : Slot}, RdL K H ss vs → ss[i]? = some s → ∃ v, vs[i]? = some v ∧ RdOk K H s v := by
      intro ss
      induction ss with
      | nil => intro vs i s _ e; simp at e
      | cons t r ih =>
        intro vs i s h e
        obtain ⟨v, us, rfl, h1, h2⟩ := h
        cases i with
        | zero => simp at e; subst e; exact ⟨v, rfl, h1⟩
        | succ i =>
          obtain ⟨u, q1, q2⟩ := ih (i := i) h2 (by simpa using e)
          exact ⟨u, by simpa using q1, q2⟩
    cases q : ss[i]? with
    | none => rw [q] at e; cases e
    | some t =>
      rw [q] at e
      cases e
      obtain ⟨v, g1, g2⟩ := go h q
      refine ⟨v, ?_, g2⟩
      unfold L2.start
      rw [List.getElem?_append_left (by simp; omega), List.getElem?_map, g1]
      rfl
theorem fn_ok {P : Program} {w : World} {K : PySem.W.Frag} {mg : Str → Option Value} {base : Heap} {x qual : Str} {st : Stmt} {f : Addr} {fd : FuncData} {N ps : List Str} {k : Nat} {g : MS} (F : Fun K x qual st f fd) (S : FnScope N ps (defScope st))
    (hbody : ∀ (cdv : Value) (A : Around) (outer : List PySem.Env) (s : Shared) (H : Hp) (E : XK), Room k (A.deeper (PyProof.Rows.envOfC qual (defScope st) s.heap.objs.size f cdv)) →
      QSs (cxOf CX0 P w K mg base N qual (defScope st) f cdv A outer s H E).nox (defBody st) g) : FnOk P w K mg base CX0 (k + 1) f fd ps (spF K ps.length (runF ps.length N.length g)) := by
  refine F.ok S (fun vs H Q E h => ?_) (fun cdv A outer s H vs Q E hr h => ?_)
  · obtain ⟨ss, t, e, r, _⟩ := h
    rw [r.length, e]
  · obtain ⟨ss, t, e, r, hF, G⟩ := h
    refine ⟨_, hbody cdv A outer s H E hr, ?_⟩
    unfold runF at hF
    rw [if_pos e] at hF
    obtain ⟨o, h1, hF⟩ := bind_some hF
    have R0 := start_rel (N := N) r
    rw [e] at R0
    refine ⟨H, _, O0, fun _ => [], o, R0, h1, ?_⟩
    cases o with
    | nx ρ' =>
      cases hF
      exact fun σ' H' O' fp' R' F' => G .non H' R'.keep rfl
    | bk ρ' => cases hF
    | ct ρ' => cases hF
    | rt s' =>
      obtain ⟨rfl, hn⟩ := fresh_of hF
      intro ρ' σ' v H' O' fp' R' k'
      obtain ⟨f, hs, nd, hf⟩ := k'
      cases t with
      | val d => exact G v H' R'.keep hs.1
      | fz d => exact hn.elim
      | fz2 d => exact hn.elim
      | own ds =>
        obtain ⟨p, vs', rfl, h2, h3, rfl⟩ := hs
        exact G p vs' H' R'.keep (R'.new p (hf p (by simp)).1.1) h2 h3
      | own2 dss =>
        obtain ⟨p, qs, rfl, h2, h3, rfl⟩ := hs
        exact G p qs H' R'.keep (fun a ha => R'.new a (hf a ha).1.1) nd h2 h3
end Mi
namespace Mi
open PySem L2
open PySem.Spec
variable {K : PySem.W.Frag} {H H' : Hp} {O O' : Addr → Prop} {fp fp' : Nat → List Addr} {B : Hp} {ρ ρ' : En} {σ : St}
theorem cells_app : ∀ (names : List (Str × NameKind)) (n : Nat) (acc : List (Str × Addr)), cellsFrom n names acc = cellsFrom n names [] ++ acc
  | [], _, _ => rfl
  | (x, k) :: r, n, acc => by
    unfold cellsFrom
    split
    · rw [cells_app r (n + 1) ((x, n) :: acc), cells_app r (n + 1) [(x, n)], List.append_assoc]
      rfl
    · exact cells_app r n acc
theorem lookup_app {α : Type} (x : Str) : ∀ (a b : List (Str × α)), (a ++ b).lookup x = (a.lookup x).or (b.lookup x)
  | [], b => by simp
  | (y, v) :: r, b => by
    rw [List.cons_append, List.lookup_cons, List.lookup_cons]
    cases x == y with
    | true => rfl
    | false => exact lookup_app x r b
theorem own_cell : ∀ (names : List (Str × NameKind)) (n : Nat) (acc : List (Str × Addr)) (x : Str) (c : Addr), (x, c) ∈ cellsFrom n names acc → (x, c) ∈ acc ∨ (x, NameKind.cell) ∈ names
  | [], _, _, _, _, h => .inl h
  | (y, k) :: r, n, acc, x, c, h => by
    unfold cellsFrom at h
    split at h
    · rename_i hk
      rcases own_cell r _ _ x c h with z | z
      · rcases List.mem_cons.mp z with e | z
        · cases e
          have : k = .cell := by simpa using hk
          subst this
          exact .inr (by simp)
        · exact .inl z
      · exact .inr (List.mem_cons_of_mem _ z)
    · rcases own_cell r _ _ x c h with z | z
      · exact .inl z
      · exact .inr (List.mem_cons_of_mem _ z)
noncomputable def clF (cs : List (Str × Addr)) : List (Str × NameKind) → List (Str × Addr) → List (Str × Addr)
  | [], acc => acc
  | (x, k) :: r, acc => if k == .free then clF cs r ((x, (cs.lookup x).getD 0) :: acc) else clF cs r acc
theorem clF_pure {env : PySem.Env} : ∀ (names : List (Str × NameKind)) (acc : List (Str × Addr)), (∀ x, (x, NameKind.free) ∈ names → ∃ c, env.cells.lookup x = some c) →
    (forIn names acc fun p cs => (if p.2 == NameKind.free then (do let c ← cellOf env p.1; pure (.yield ((p.1, c) :: cs))) else pure (.yield cs) : Sem (ForInStep (List (Str × Addr))))) = pure (clF env.cells names acc)
  | [], acc, _ => by rw [List.forIn_nil]; rfl
  | (x, k) :: r, acc, h => by
    have hr : ∀ x, (x, NameKind.free) ∈ r → ∃ c, env.cells.lookup x = some c := fun y hy => h y (List.mem_cons_of_mem _ hy)
    rw [List.forIn_cons]
    unfold clF
    by_cases hk : (k == NameKind.free) = true
    · have e : k = .free := by simpa using hk
      subst e
      obtain ⟨c, hc⟩ := h x (by simp)
      have q : cellOf env x = pure c := by unfold cellOf; rw [hc]
      simp only [q, hk, if_true, hc, Option.getD_some, pure_bind]
      exact clF_pure r _ hr
    · simp only [hk, if_false, pure_bind, Bool.false_eq_true]
      exact clF_pure r _ hr
theorem clF_mem {cs : List (Str × Addr)} : ∀ (names : List (Str × NameKind)) (acc : List (Str × Addr)) (x : Str) (c : Addr), (x, c) ∈ clF cs names acc → (x, c) ∈ acc ∨ ((x, NameKind.free) ∈ names ∧ c = (cs.lookup x).getD 0)
  | [], _, _, _, h => .inl h
  | (y, k) :: r, acc, x, c, h => by
    unfold clF at h
    split at h
    · rename_i hk
      rcases clF_mem r _ x c h with z | z
      · rcases List.mem_cons.mp z with e | z
        · cases e
          have : k = .free := by simpa using hk
          subst this
          exact .inr ⟨by simp, rfl⟩
        · exact .inl z
      · exact .inr ⟨List.mem_cons_of_mem _ z.1, z.2⟩
    · rcases clF_mem r _ x c h with z | z
      · exact .inl z
      · exact .inr ⟨List.mem_cons_of_mem _ z.1, z.2⟩
theorem clF_has {cs : List (Str × Addr)} : ∀ (names : List (Str × NameKind)) (acc : List (Str × Addr)) (x : Str), ((x, NameKind.free) ∈ names ∨ ∃ c, acc.lookup x = some c) → ∃ c, (clF cs names acc).lookup x = some c
  | [], _, _, h => by
    rcases h with h | h
    · simp at h
    · exact h
  | (y, k) :: r, acc, x, h => by
    unfold clF
    have up : ∀ (v : Addr), (∃ c, acc.lookup x = some c) → ∃ c, List.lookup x ((y, v) :: acc) = some c := fun v ⟨c, e⟩ => by
      rw [List.lookup_cons]
      cases x == y with
      | true => exact ⟨_, rfl⟩
      | false => exact ⟨c, e⟩
    split
    · rename_i hk
      refine clF_has r _ x ?_
      rcases h with h | h
      · rcases List.mem_cons.mp h with e | e
        · cases e
          right
          rw [List.lookup_cons, beq_self_eq_true]
          exact ⟨_, rfl⟩
        · exact .inl e
      · exact .inr (up _ h)
    · rename_i hk
      refine clF_has r _ x ?_
      rcases h with h | h
      · rcases List.mem_cons.mp h with e | e
        · cases e; simp at hk
        · exact .inl e
      · exact .inr h
theorem closure_pure {scope : Scope} {env : PySem.Env} (h : ∀ x, (x, NameKind.free) ∈ scope.names → ∃ c, env.cells.lookup x = some c) : closureFor scope env = pure (clF env.cells scope.names []) := by
  have e : closureFor scope env = ((forIn scope.names ([] : List (Str × Addr)) fun p cs => (if p.2 == NameKind.free then (do let c ← cellOf env p.1; pure (.yield ((p.1, c) :: cs))) else pure (.yield cs) : Sem (ForInStep (List (Str × Addr))))) >>= fun cs => pure cs) := rfl
  rw [e, clF_pure scope.names [] h, pure_bind]
end Mi
namespace Mi
open PySem L2
open PySem.Spec
variable {K : PySem.W.Frag} {H H' : Hp} {O O' : Addr → Prop} {fp fp' : Nat → List Addr} {B : Hp} {ρ ρ' : En} {σ : L2.St}
theorem nfe {M : Model} {A : Around} {E : Value → Shared → Prop} {s : Shared} {scope : Scope} {globals : Addr} {cl : List (Str × Addr)} {qual : Str} {env : PySem.Env} {Q : PySem.Env → Shared → Prop}
    (h : Q (newEnv scope s.heap.objs.size globals (cellsFrom (s.heap.objs.size + 1) scope.names cl) qual none .none (some env) builtinsNs) { s with heap := pushCells (s.heap.push { cls := .type "dict", data := .dict #[] }) scope.names }) :
    wpAny M A (newFunctionEnv scope globals cl [] qual none .none (some env)) Q E s := by
  simp only [newFunctionEnv, Option.isSome_some, if_true]
  refine wpAny_bind (wpAny_alloc ?_)
  refine wpAny_bind (wpAny_layCells _ (fun name kind cells => by cases hkc : kind == NameKind.cell <;> simp [hkc]) _ _ _ _ ?_)
  rw [show ({ s with heap := s.heap.push { cls := .type "dict", data := .dict #[] } } : Shared).heap.objs.size = s.heap.objs.size + 1 from Heap.size_push ..]
  rw [List.forIn_nil]
  exact wpAny_bind (wpAny_pure (wpAny_pure h))
noncomputable def blkEnv (scope : Scope) (env : PySem.Env) (C : Addr) (cells : List (Str × Addr)) : PySem.Env :=
  { scope := relabel scope env, locals := C, globals := env.globals, cells := cells, qual := env.qual, func := none, code := env.code, frame := env.frame, builtins := env.builtins }
noncomputable def blk (X : Cx) (scope : Scope) (C : Addr) (cells : List (Str × Addr)) (s₂ : Shared) (H₂ : Hp) (ex : List Addr) : Cx where
  prog := X.prog
  w := X.w
  K := X.K
  mg := X.mg
  base := X.base
  A := X.A
  N := X.N
  s₀ := s₂
  H₀ := H₂
  env := blkEnv scope X.env C cells
  outer := X.stack
  stack := X.stack
  ex := ex
  fn := fun x => scope.names.lookup x == some .cell
  calm := X.calm
  pn := []
  xe := fun _ _ => False
structure CompOk (scope : Scope) (outer : List (Str × NameKind)) (N : List Str) (ks : List Nat) : Prop where
  kind : scope.kind = .function
  nd : (scope.names.map (·.1)).Nodup
  free : ∀ x, (x, NameKind.free) ∈ scope.names → outer.lookup x = some .cell ∨ outer.lookup x = some .free
  own : ∀ i x, N[i]? = some x → scope.names.lookup x = some .local ∨ scope.names.lookup x = some .cell → i ∈ ks
theorem lookup_of_mem {α : Type} : ∀ {l : List (Str × α)} {x : Str} {c : α}, (l.map (·.1)).Nodup → (x, c) ∈ l → l.lookup x = some c
  | [], _, _, _, h => by simp at h
  | (y, v) :: r, x, c, nd, h => by
    rw [List.map_cons, List.nodup_cons] at nd
    rw [List.lookup_cons]
    rcases List.mem_cons.mp h with e | h'
    · cases e
      rw [beq_self_eq_true]
    · have : (x == y) = false := by
        rw [beq_eq_false_iff_ne]
        intro z
        subst z
        exact nd.1 (List.mem_map.mpr ⟨(x, c), h', rfl⟩)
      rw [this]
      exact lookup_of_mem nd.2 h'
theorem lookup_relabel {env : PySem.Env} : ∀ {names : List (Str × NameKind)} {x : Str},
    (names.map fun (n, k) => if (k == NameKind.free && env.scope.kind == .function && env.kindOf n == some .cell) then (n, NameKind.cell) else (n, k)).lookup x =
      (names.lookup x).map fun k => if (k == NameKind.free && env.scope.kind == .function && env.kindOf x == some .cell) then NameKind.cell else k
  | [], _ => rfl
  | (n, k) :: r, x => by
    have ih := @lookup_relabel env r x
    rw [List.map_cons, List.lookup_cons]
    cases hx : x == n with
    | true =>
      have e : x = n := beq_iff_eq.mp hx
      subst e
      by_cases hc : (k == NameKind.free && env.scope.kind == .function && env.kindOf x == some .cell) = true
      · simp only [hc, if_true, List.lookup_cons, beq_self_eq_true, Option.map_some]
      · simp only [hc, if_false, List.lookup_cons, beq_self_eq_true, Option.map_some, Bool.false_eq_true]
    | false =>
      by_cases hc : (k == NameKind.free && env.scope.kind == .function && env.kindOf n == some .cell) = true
      · simp only [hc, if_true, List.lookup_cons, hx]; exact ih
      · simp only [hc, if_false, List.lookup_cons, hx, Bool.false_eq_true]; exact ih
noncomputable def maskS (ks : List Nat) (σ : L2.St) : L2.St := ks.foldl (fun s k => s.set k none) σ
theorem mask_get {ks : List Nat} : ∀ {σ : L2.St}, (maskS ks σ).length = σ.length ∧ (∀ j, j ∉ ks → (maskS ks σ)[j]? = σ[j]?) ∧ ∀ j v, j ∈ ks → (maskS ks σ)[j]? ≠ some (some v) := by
  induction ks with
  | nil => exact ⟨rfl, fun _ _ => rfl, fun j v h => by simp at h⟩
  | cons k r ih =>
    intro σ
    obtain ⟨h1, h2, h3⟩ := @ih (σ.set k none)
    refine ⟨by rw [show maskS (k :: r) σ = maskS r (σ.set k none) from rfl, h1]; simp, fun j hj => ?_, fun j v hj => ?_⟩
    · rw [show maskS (k :: r) σ = maskS r (σ.set k none) from rfl, h2 j (fun z => hj (by simp [z]))]
      exact List.getElem?_set_ne (fun z => hj (by simp [z]))
    · rw [show maskS (k :: r) σ = maskS r (σ.set k none) from rfl]
      by_cases hr : j ∈ r
      · exact h3 j v hr
      · have e : j = k := by rcases List.mem_cons.mp hj with z | z; exact z; exact absurd z hr
        subst e
        rw [h2 j hr, List.getElem?_set]
        rw [if_pos rfl]
        split <;> simp
section
variable {X : Cx} {scope : Scope} {ks : List Nat} {pins : List (Addr × Obj)} {s₂ : Shared} {ex : List Addr}
theorem blk_start (I : Inv X pins σ H s₂) (c : CompOk scope X.env.scope.names X.N ks) (hc : X.calm = true) (hex : ∀ b ∈ ex, FpOk X pins H b) (hobj : ∀ b ∈ ex, ∃ o, s₂.heap.get? b = some o) :
    Inv (blk X scope (s₂.heap.objs.size + 1) (cellsFrom (s₂.heap.objs.size + 2) scope.names (clF X.env.cells scope.names [])) s₂ H ex) [] (maskS ks σ) (upd H s₂.heap.objs.size (.lst []))
      { s₂ with heap := pushCells ((s₂.heap.push { cls := .type "list", data := .seq ([] : List Value).toArray }).push { cls := .type "dict", data := .dict #[] }) scope.names } := by
  generalize hA : s₂.heap.push { cls := .type "list", data := .seq ([] : List Value).toArray } = hAcc
  generalize hD : hAcc.push { cls := .type "dict", data := .dict #[] } = hDict
  have zA : hAcc.objs.size = s₂.heap.objs.size + 1 := by rw [← hA, Heap.size_push]
  have zD : hDict.objs.size = s₂.heap.objs.size + 2 := by rw [← hD, Heap.size_push, zA]
  have kA : ∀ b u, s₂.heap.get? b = some u → hAcc.get? b = some u := fun b u e => by rw [← hA]; exact Heap.get?_push_of_some _ e
  have kD : ∀ b u, hAcc.get? b = some u → hDict.get? b = some u := fun b u e => by rw [← hD]; exact Heap.get?_push_of_some _ e
  have kC : ∀ b u, hDict.get? b = some u → (pushCells hDict scope.names).get? b = some u := pushCells_keeps scope.names hDict
  have k3 : ∀ b u, s₂.heap.get? b = some u → (pushCells hDict scope.names).get? b = some u := fun b u e => kC b u (kD b u (kA b u e))
  have ok := cellsFrom_ok scope.names hDict (s₂.heap.objs.size + 2) [] ⟨fun _ _ hm => (nomatch hm), List.Pairwise.nil⟩ (by rw [zD]; exact Nat.le_refl _)
  rw [zD] at ok
  have app := cells_app scope.names (s₂.heap.objs.size + 2) (clF X.env.cells scope.names [])
  have freeC : ∀ x, (x, NameKind.free) ∈ scope.names → ∃ a, X.env.cells.lookup x = some a := fun x hx => I.ok.has x (c.free x hx)
  -- an own cell, or one of the frame's
  have cellsAt : ∀ x a, (cellsFrom (s₂.heap.objs.size + 2) scope.names (clF X.env.cells scope.names [])).lookup x = some a →
      ((x, a) ∈ cellsFrom (s₂.heap.objs.size + 2) scope.names [] ∧ (x, NameKind.cell) ∈ scope.names ∧ s₂.heap.objs.size + 2 ≤ a ∧ (pushCells hDict scope.names).IsCell a none) ∨ ((x, NameKind.free) ∈ scope.names ∧ X.env.cells.lookup x = some a) := fun x a e => by
    rw [app, lookup_app] at e
    cases q : (cellsFrom (s₂.heap.objs.size + 2) scope.names []).lookup x with
    | some a' =>
      rw [q] at e
      cases e
      have hm := PySem.mem_of_lookup q
      rcases own_cell _ _ _ _ _ hm with z | z
      · simp at z
      · exact .inl ⟨hm, z, (ok.empty x a hm).2, (ok.empty x a hm).1⟩
    | none =>
      rw [q] at e
      have e' : (clF X.env.cells scope.names []).lookup x = some a := e
      rcases clF_mem _ _ _ _ (PySem.mem_of_lookup e') with z | ⟨z1, z2⟩
      · simp at z
      · obtain ⟨a', h'⟩ := freeC x z1
        rw [h'] at z2
        exact .inr ⟨z1, by rw [h', z2]; rfl⟩
  have cellOld : ∀ x a, X.env.cells.lookup x = some a → a < s₂.heap.objs.size := fun x a e => let ⟨v, z⟩ := I.cell x a e; z.lt
  have hfr : H s₂.heap.objs.size = none := I.hok.fresh (Nat.le_refl _)
  have hfr1 : H (s₂.heap.objs.size + 1) = none := I.hok.fresh (Nat.le_succ _)
  have nacc : ∀ {b : Addr}, b ≠ s₂.heap.objs.size → upd H s₂.heap.objs.size (.lst []) b = H b := fun h => upd_ne h
  refine ⟨⟨I.ok.mod, c.kind, I.ok.glob, I.ok.blt, Nat.le_succ _, fun x y a e1 e2 => ?_, fun x hx => ?_, fun x a hf e => ?_, fun z => I.ok.hd z, I.ok.frames, .inl rfl, fun b hb => ⟨?_, fun x a e z => ?_⟩, I.bs, Nat.le_trans I.ok.bsz I.sz, fun b o e hb => ?_, fun b hb z => ?_, I.stack, I.stkFree⟩,
    rfl, I.bare, Un.laid k3 (Nat.le_refl _) hfr, ⟨fun _ => none, ?_, fun i x v h1 h2 h3 => ?_⟩, fun x a e => ?_, ?_, fun x a e => ?_, fun p hp => absurd (show p ∈ ([] : List (Addr × Obj)) ++ [] from hp) (by simp), ?_, ?_⟩
  · -- inj
    rcases cellsAt x a e1 with ⟨m1, _, l1, _⟩ | ⟨_, q1⟩
    · rcases cellsAt y a e2 with ⟨m2, _, l2, _⟩ | ⟨_, q2⟩
      · exact name_of_addr ok.apart m1 m2
      · exact absurd (Nat.lt_of_lt_of_le (cellOld y a q2) (Nat.le_trans (Nat.le_add_right _ 2) l1)) (Nat.lt_irrefl _)
    · rcases cellsAt y a e2 with ⟨m2, _, l2, _⟩ | ⟨_, q2⟩
      · exact absurd (Nat.lt_of_lt_of_le (cellOld x a q1) (Nat.le_trans (Nat.le_add_right _ 2) l2)) (Nat.lt_irrefl _)
      · exact I.ok.inj x y a q1 q2
  · -- has
    have hx' : (scope.names.map fun (n, k) => if (k == NameKind.free && X.env.scope.kind == .function && X.env.kindOf n == some .cell) then (n, NameKind.cell) else (n, k)).lookup x = some .cell ∨ (scope.names.map fun (n, k) => if (k == NameKind.free && X.env.scope.kind == .function && X.env.kindOf n == some .cell) then (n, NameKind.cell) else (n, k)).lookup x = some .free := hx
    rw [lookup_relabel] at hx'
    show ∃ a, (cellsFrom (s₂.heap.objs.size + 2) scope.names (clF X.env.cells scope.names [])).lookup x = some a
    rw [app, lookup_app]
    cases q : scope.names.lookup x with
    | none => rw [q] at hx'; rcases hx' with z | z <;> cases z
    | some kd =>
      have hm := PySem.mem_of_lookup q
      cases kd with
      | «local» => rw [q] at hx'; rcases hx' with z | z <;> cases z
      | globalExplicit => rw [q] at hx'; rcases hx' with z | z <;> cases z
      | globalImplicit => rw [q] at hx'; rcases hx' with z | z <;> cases z
      | cell =>
        obtain ⟨a, e⟩ := cell_has (n := s₂.heap.objs.size + 2) q
        exact ⟨a, by rw [e]; rfl⟩
      | free =>
        obtain ⟨a, e⟩ := clF_has (cs := X.env.cells) scope.names [] x (.inl hm)
        cases (cellsFrom (s₂.heap.objs.size + 2) scope.names []).lookup x with
        | some a' => exact ⟨a', rfl⟩
        | none => exact ⟨a, e⟩
  · -- cab
    have hf' : scope.names.lookup x = some .cell := by simpa [blk] using hf
    rcases cellsAt x a e with ⟨_, _, l, _⟩ | ⟨z, _⟩
    · exact Nat.le_trans (Nat.le_add_right _ 2) l
    · rw [lookup_of_mem c.nd z] at hf'; cases hf'
  · -- exf 1
    obtain ⟨o, ho⟩ := hobj b hb
    exact Nat.ne_of_lt (Nat.lt_succ_of_lt (Heap.lt_size ho))
  · -- exf 2
    obtain ⟨o, ho⟩ := hobj b hb
    rcases cellsAt x a e with ⟨_, _, l, _⟩ | ⟨_, q⟩
    · rw [z] at l
      exact absurd (Nat.lt_of_lt_of_le (Heap.lt_size ho) (Nat.le_trans (Nat.le_add_right _ 2) l)) (Nat.lt_irrefl _)
    · exact (hex b hb).2.2.2.2.1 x a q z
  · -- noex
    rcases (hex b hb).2.2.2.1 with z | z
    · exact I.ok.noex b o e z
    · exact absurd (Nat.lt_of_lt_of_le (Heap.lt_size e) (Nat.le_trans I.ok.bsz z)) (Nat.lt_irrefl _)
  · -- exfs
    rcases List.mem_cons.mp (I.stkSub b z) with q | q
    · exact (hex b hb).2.1 q
    · exact (hex b hb).2.2.1 q
  · -- the frame
    have : hDict.Ns (s₂.heap.objs.size + 1) (fun _ => none) := by
      rw [← hD, ← zA]; exact Heap.Ns.new hAcc (.type "dict")
    exact this.keeps kC
  · -- the names
    have hik : i ∉ ks := fun z => (mask_get (σ := σ)).2.2 i v z h2
    rw [(mask_get (σ := σ)).2.1 i hik] at h2
    have h3' : (relabel scope X.env).names.lookup x = some .local ∨ (relabel scope X.env).names.lookup x = some .cell ∨ (relabel scope X.env).names.lookup x = some .free := h3
    have rl : (relabel scope X.env).names.lookup x = (scope.names.lookup x).map fun k => if (k == NameKind.free && X.env.scope.kind == .function && X.env.kindOf x == some .cell) then NameKind.cell else k := lookup_relabel
    have hq : scope.names.lookup x = some .free := by
      cases q : scope.names.lookup x with
      | none => rw [rl, q] at h3'; rcases h3' with z | z | z <;> cases z
      | some kd =>
        cases kd with
        | «local» => exact absurd (c.own i x h1 (.inl q)) hik
        | cell => exact absurd (c.own i x h1 (.inr q)) hik
        | free => rfl
        | globalExplicit => rw [rl, q] at h3'; rcases h3' with z | z | z <;> cases z
        | globalImplicit => rw [rl, q] at h3'; rcases h3' with z | z | z <;> cases z
    have hm := PySem.mem_of_lookup hq
    have ho := c.free x hm
    obtain ⟨m, hn, hl⟩ := I.loc
    obtain ⟨u, r, l⟩ := hl i x v h1 h2 (.inr ho)
    refine ⟨u, r, .inr ⟨?_, ?_⟩⟩
    · rcases h3' with z | z
      · rw [rl, hq] at z
        have z' : (if (NameKind.free == NameKind.free && X.env.scope.kind == .function && X.env.kindOf x == some .cell) = true then NameKind.cell else NameKind.free) = NameKind.local := Option.some.inj z
        split at z' <;> cases z'
      · exact z
    · rcases l with ⟨z, _⟩ | ⟨_, a, ha, hcell⟩
      · have z' : X.env.scope.names.lookup x = some .local := z
        rcases ho with y | y <;> (rw [y] at z'; cases z')
      · refine ⟨a, ?_, hcell.keeps k3⟩
        obtain ⟨a', e⟩ := clF_has (cs := X.env.cells) scope.names [] x (.inl hm)
        have e2 : (cellsFrom (s₂.heap.objs.size + 2) scope.names (clF X.env.cells scope.names [])).lookup x = some a' := by
          rw [app, lookup_app]
          cases q : (cellsFrom (s₂.heap.objs.size + 2) scope.names []).lookup x with
          | none => exact e
          | some b =>
            rcases own_cell _ _ _ _ _ (PySem.mem_of_lookup q) with z | z
            · simp at z
            · rw [lookup_of_mem c.nd z] at hq; cases hq
        have e3 : a' = a := by
          rcases cellsAt x a' e2 with ⟨_, z, _⟩ | ⟨_, z⟩
          · rw [lookup_of_mem c.nd z] at hq; cases hq
          · rw [ha] at z; cases z; rfl
        rw [e3] at e2
        exact e2
  · rcases cellsAt x a e with ⟨_, _, _, z⟩ | ⟨_, z⟩
    · exact ⟨none, z⟩
    · obtain ⟨v, q⟩ := I.cell x a z
      exact ⟨v, q.keeps k3⟩
  · show upd H s₂.heap.objs.size (.lst []) (s₂.heap.objs.size + 1) = none
    rw [nacc (Nat.ne_of_gt (Nat.lt_succ_self _))]
    exact hfr1
  · rcases cellsAt x a e with ⟨_, _, l, _⟩ | ⟨_, z⟩
    · have : s₂.heap.objs.size < a := Nat.lt_of_lt_of_le (Nat.lt_add_of_pos_right (by decide)) l
      rw [nacc (Nat.ne_of_gt this)]
      exact I.hok.fresh (Nat.le_of_lt this)
    · rw [nacc (Nat.ne_of_lt (cellOld x a z))]
      exact I.freeC x a z
  · have : HOk X.prog X.w (upd H s₂.heap.objs.size (.lst [])) hAcc := I.hok.laid kA (Nat.le_refl _) ⟨Nat.zero_le _, [], 0, .nil, by rw [← hA]; exact Heap.get?_push_size _ rfl⟩
    exact this.kept fun b u e => kC b u (kD b u e)
  · exact (mask_get (σ := σ)).1.trans I.len
end
end Mi
namespace Mi
open PySem L2
open PySem.Spec
variable {K : PySem.W.Frag} {H H' : Hp} {O O' : Addr → Prop} {fp fp' : Nat → List Addr} {B : Hp} {ρ ρ' : En} {σ : L2.St}
noncomputable abbrev tests (ifs : List Expr) (env : PySem.Env) : Sem Bool := forIn ifs true fun c r => if r = true then do let ok ← isTrue c env (eval c env); pure (ForInStep.yield ok) else pure (ForInStep.yield r)
theorem loop_any {prog : Program} {w : World} {A : Around} {R : Result → Shared → Prop} {s : Shared} {elt target iter : Expr} {ifs : List Expr} {scope : Scope} {pos : Pos} {it acc : Value} {env : PySem.Env} (I : Nat → Shared → Prop)
    (turn : ∀ n s, I n s → wpAny (model prog w) A (pyNext it) (fun r s₁ => match r with
      | none => R (.ok .next) s₁
      | some v => wpAny (model prog w) A (letOwnedTupleGo target it v) (fun _ s₁ => wpAny (model prog w) A (assign target env v) (fun _ s₂ =>
          wpAny (model prog w) A (tests ifs env) (fun ok s₃ =>
            if ok = true then wpAny (model prog w) A (eval elt env) (fun x s₄ =>
              wpAny (model prog w) A (call (.builtin "list.append") [acc, x]) (fun _ s₅ => ∃ m, m < n ∧ I m s₅) (fun _ _ => False) s₄) (fun _ _ => False) s₃
            else ∃ m, m < n ∧ I m s₃) (fun _ _ => False) s₂) (fun _ _ => False) s₁) (fun _ _ => False) s₁) (fun _ _ => False) s)
    (n : Nat) (h : I n s) :
    codeAny (model prog w) A (.compLoop (.ListComp elt [⟨target, iter, ifs, 0⟩] scope pos) 0 it acc env) R s := by
  refine codeAny_loop rfl I (fun n s hI => ?_) n h
  show wpAny _ A ((compTurn (.ListComp elt [⟨target, iter, ifs, 0⟩] scope pos) 0 it acc env).onRaise (fun x => do noteFrame x env; theTreesLotGoes x)) _ _ s
  refine wpAny_noted ?_
  rw [compTurn_list]
  refine wpAny_bind (wpAny_standAt (wpAny_bind (wpAny_mono (turn n s hI) (fun r s₁ h₁ => ?_) fun _ _ h' => h'.elim)))
  cases r with
  | none => exact wpAny_pure h₁
  | some v =>
    refine wpAny_bind (wpAny_mono h₁ (fun _ s₁ h₁ => ?_) fun _ _ h' => h'.elim)
    refine wpAny_bind (wpAny_mono h₁ (fun _ s₂ h₂ => wpAny_bind (wpAny_mono h₂ (fun ok s₃ h₃ => ?_) fun _ _ h' => h'.elim)) fun _ _ h' => h'.elim)
    cases ok with
    | false => exact wpAny_pure ⟨rfl, h₃⟩
    | true =>
      exact wpAny_bind (wpAny_bind (wpAny_mono h₃ (fun x s₄ h₄ => wpAny_bind (wpAny_mono h₄ (fun _ s₅ h₅ => wpAny_pure (wpAny_pure ⟨rfl, h₅⟩)) fun _ _ h' => h'.elim)) fun _ _ h' => h'.elim))
noncomputable def QTs (X : Cx) (ifs : List Expr) (f : M Bool) : Prop :=
  ∀ (pins : List (Addr × Obj)) (s : Shared) (σ : L2.St) (H : Hp) (Q : Bool → Hp → Prop), Inv X pins σ H s → tQT X.K f σ H Q → wpAny (model X.prog X.w) X.A (tests ifs X.env) (TP X pins σ Q) X.xe s
noncomputable def mYes : M Bool := fun ρ => some (true, ρ)
section
variable {X : Cx} {e c : Expr}
theorem qts_nil : QTs X [] mYes := fun pins s σ H Q I ⟨B, ρ, O, fp, b, ρ', R, hf, k⟩ => by
  cases hf
  exact wpAny_tests_nil ⟨H, I, k H O fp R Fr.refl⟩
theorem qts_one {f : M Bool} (h : QT X c f) : QTs X [c] f := fun pins s σ H Q I q => wpAny_tests_one (h pins s σ H Q I q)
end
noncomputable def compL (tg : MG) (c : M Bool) (elt : M R) : List Slot → En → Option (List D × En)
  | [], ρ => some ([], ρ)
  | s :: r, ρ => (tg s ρ).bind fun ρ1 => (c ρ1).bind fun y => if y.1 = true then (elt y.2).bind fun z => match z.1 with
      | .of (.val d) => (compL tg c elt r z.2).bind fun w => some (d :: w.1, w.2)
      | _ => none
    else compL tg c elt r y.2
noncomputable def maskE (ks : List Nat) (ρ : En) : En := ks.foldl (fun r k => r.set k none) ρ
noncomputable def unmask (ks : List Nat) (ρ0 ρ : En) : En := ks.foldl (fun r k => r.set k (ρ0[k]?).join) ρ
noncomputable def plainAt (ρ : En) (k : Nat) : Bool := match (ρ[k]?).join with
  | none => true
  | some (.val _) => true
  | _ => false
noncomputable def noOwn (ρ : En) (k : Nat) : Bool := match (ρ[k]?).join with
  | some (.own _) => false
  | some (.own2 _) => false
  | _ => true
noncomputable def mComp (ks : List Nat) (tg : MG) (it : M (List Slot)) (c : M Bool) (elt : M R) : M R := fun ρ => (it ρ).bind fun x => if x.1.length < big ∧ ks.all (plainAt x.2) = true then
    (compL tg c elt x.1 (maskE ks x.2)).bind fun w => if ks.all (noOwn w.2) = true then some (.of (.own w.1), unmask ks x.2 w.2) else none else none
theorem Rel.mask (r : Rel K B ρ σ H O fp) (ks : List Nat) : Rel K B (maskE ks ρ) (maskS ks σ) H O (fun j => if j ∈ ks then [] else fp j) := by
  have hE : ∀ {ρ : En}, (maskE ks ρ).length = ρ.length ∧ (∀ j, j ∉ ks → (maskE ks ρ)[j]? = ρ[j]?) ∧ ∀ j s, j ∈ ks → (maskE ks ρ)[j]? ≠ some (some s) := by
    induction ks with
    | nil => exact ⟨rfl, fun _ _ => rfl, fun j v h => by simp at h⟩
    | cons k r ih =>
      intro ρ
      obtain ⟨h1, h2, h3⟩ := @ih (ρ.set k none)
      refine ⟨by rw [show maskE (k :: r) ρ = maskE r (ρ.set k none) from rfl, h1]; simp, fun j hj => ?_, fun j v hj => ?_⟩
      · rw [show maskE (k :: r) ρ = maskE r (ρ.set k none) from rfl, h2 j (fun z => hj (by simp [z]))]
        exact List.getElem?_set_ne (fun z => hj (by simp [z]))
      · rw [show maskE (k :: r) ρ = maskE r (ρ.set k none) from rfl]
        by_cases hr : j ∈ r
        · exact h3 j v hr
        · have e : j = k := by rcases List.mem_cons.mp hj with z | z; exact z; exact absurd z hr
          subst e
          rw [h2 j hr, List.getElem?_set]
          rw [if_pos rfl]
          split <;> simp
  obtain ⟨e1, e2, e3⟩ := @hE ρ
  obtain ⟨g1, g2, g3⟩ := mask_get (ks := ks) (σ := σ)
  refine ⟨by rw [e1, g1]; exact r.len, fun i s h => ?_, fun i h => ?_, fun i j a h1 h2 => ?_, fun i => ?_, fun i a h => ?_, r.lst, r.new, r.keep⟩
  · by_cases hi : i ∈ ks
    · exact absurd h (e3 i s hi)
    · rw [e2 i hi] at h
      obtain ⟨v, q, z⟩ := r.slot i s h
      exact ⟨v, by rw [g2 i hi]; exact q, by rw [if_neg hi]; exact z⟩
  · by_cases hi : i ∈ ks
    · rw [if_pos hi]
    · rw [if_neg hi]
      exact r.non i fun s z => h s (by rw [e2 i hi]; exact z)
  · by_cases hi : i ∈ ks
    · rw [if_pos hi] at h1; simp at h1
    · by_cases hj : j ∈ ks
      · rw [if_pos hj] at h2; simp at h2
      · rw [if_neg hi] at h1; rw [if_neg hj] at h2
        exact r.dis i j a h1 h2
  · by_cases hi : i ∈ ks
    · rw [if_pos hi]; exact List.nodup_nil
    · rw [if_neg hi]; exact r.nd i
  · by_cases hi : i ∈ ks
    · rw [if_pos hi] at h; simp at h
    · rw [if_neg hi] at h; exact r.sub i a h
theorem unmask_get {ks : List Nat} {ρ0 : En} : ∀ {ρ : En}, ρ.length = ρ0.length → (unmask ks ρ0 ρ).length = ρ.length ∧ (∀ j, j ∉ ks → (unmask ks ρ0 ρ)[j]? = ρ[j]?) ∧ ∀ j, j ∈ ks → (unmask ks ρ0 ρ)[j]? = ρ0[j]? := by
  induction ks with
  | nil => exact fun _ => ⟨rfl, fun _ _ => rfl, fun j h => by simp at h⟩
  | cons k r ih =>
    intro ρ hl
    obtain ⟨h1, h2, h3⟩ := @ih (ρ.set k (ρ0[k]?).join) (by simpa using hl)
    refine ⟨by rw [show unmask (k :: r) ρ0 ρ = unmask r ρ0 (ρ.set k (ρ0[k]?).join) from rfl, h1]; simp, fun j hj => ?_, fun j hj => ?_⟩
    · rw [show unmask (k :: r) ρ0 ρ = unmask r ρ0 (ρ.set k (ρ0[k]?).join) from rfl, h2 j (fun z => hj (by simp [z]))]
      exact List.getElem?_set_ne (fun z => hj (by simp [z]))
    · rw [show unmask (k :: r) ρ0 ρ = unmask r ρ0 (ρ.set k (ρ0[k]?).join) from rfl]
      by_cases hr : j ∈ r
      · exact h3 j hr
      · have e : j = k := by rcases List.mem_cons.mp hj with z | z; exact z; exact absurd z hr
        subst e
        rw [h2 j hr, List.getElem?_set, if_pos rfl]
        by_cases hj : j < ρ0.length
        · rw [if_pos (by omega)]
          rw [List.getElem?_eq_getElem hj]
          rfl
        · rw [if_neg (by omega), List.getElem?_eq_none (by omega)]
theorem Rel.unmask {ks : List Nat} {ρ0 : En} {σ0 : L2.St} {H0 : Hp} {O0' : Addr → Prop} {fp0 : Nat → List Addr} (r0 : Rel K B ρ0 σ0 H0 O0' fp0) (hp : ks.all (plainAt ρ0) = true) (r : Rel K B ρ σ H O fp) (ag : Agr ks σ0 σ) (t : Tk H0 H)
    (hn : ks.all (noOwn ρ) = true) : Rel K B (Mi.unmask ks ρ0 ρ) σ0 H O fp := by
  have hl : ρ.length = ρ0.length := by rw [r.len, r0.len, ag.1]
  obtain ⟨e1, e2, e3⟩ := unmask_get (ks := ks) (ρ0 := ρ0) hl
  have nil : ∀ i ∈ ks, fp i = [] := fun i hi => by
    have hni := List.all_eq_true.mp hn i hi
    unfold noOwn at hni
    cases q : (ρ[i]?).join with
    | none =>
      refine r.non i fun s z => ?_
      rw [z] at q; cases q
    | some s =>
      rw [q] at hni
      obtain ⟨v, _, z⟩ := r.slot i s (join_some q)
      cases s with
      | val d => exact z.2
      | fz d => exact z.2
      | fz2 d => exact z.2
      | own d => cases hni
      | own2 d => cases hni
  refine ⟨by rw [e1, hl]; exact r0.len, fun i s h => ?_, fun i h => ?_, r.dis, r.nd, r.sub, r.lst, r.new, r.keep⟩
  · by_cases hi : i ∈ ks
    · rw [e3 i hi] at h
      have hpi := List.all_eq_true.mp hp i hi
      unfold plainAt at hpi
      rw [h] at hpi
      obtain ⟨v, q, z⟩ := r0.slot i s h
      refine ⟨v, q, ?_⟩
      rw [nil i hi]
      cases s with
      | val d => exact ⟨z.1.tk t, rfl⟩
      | _ => cases hpi
    · rw [e2 i hi] at h
      obtain ⟨v, q, z⟩ := r.slot i s h
      exact ⟨v, by rw [← ag.2 i hi]; exact q, z⟩
  · by_cases hi : i ∈ ks
    · exact nil i hi
    · exact r.non i fun s z => h s (by rw [e2 i hi]; exact z)
theorem Rel.updF (r : Rel K B ρ σ H O fp) {p : Addr} {vs us : List V} (hp : H p = some (.lst vs)) (hf : fl O fp p) : Rel K B ρ σ (L2.upd H p (.lst us)) O fp := by
  refine ⟨r.len, fun i s h => ?_, r.non, r.dis, r.nd, r.sub, fun b h => ?_, r.new, fun b o h => ?_⟩
  · obtain ⟨v, q, z⟩ := r.slot i s h
    exact ⟨v, q, z.upd hp hf.1 (hf.2 i)⟩
  · by_cases e : b = p
    · exact ⟨us, by rw [e]; exact upd_same⟩
    · obtain ⟨ws, z⟩ := r.lst b h
      exact ⟨ws, by rw [upd_ne e]; exact z⟩
  · rw [upd_ne (fun z => by have w := r.new p hf.1; rw [← z, h] at w; cases w)]
    exact r.keep b o h
section
variable {X : Cx} {elt tg iter : Expr} {ifs : List Expr} {scope : Scope} {pos : Pos} {ks : List Nat} {g : MG} {it : M (List Slot)} {c : M Bool} {f : M R}
structure Blk (X : Cx) (scope : Scope) (ks : List Nat) (tg : Expr) (ifs : List Expr) (elt : Expr) (g : MG) (c : M Bool) (f : M R) : Prop where
  ok : CompOk scope X.env.scope.names X.N ks
  tg : ∀ C cells s₂ H₂ ex, QG (blk X scope C cells s₂ H₂ ex) tg ks g
  ifs : ∀ C cells s₂ H₂ ex, QTs (blk X scope C cells s₂ H₂ ex) ifs c
  elt : ∀ C cells s₂ H₂ ex, QE (blk X scope C cells s₂ H₂ ex) elt f
theorem Fr.updN (F : Fr H O fp H' O' fp') (l : ∀ b, O b → ∃ vs, H b = some (.lst vs)) {p : Addr} {o : HO} (hp : H p = none) : Fr H O fp (L2.upd H' p o) O' fp' := by
  refine ⟨fun b u h n => ?_, F.new, fun a h n => ?_⟩
  · rw [upd_ne (ne_of_none h hp)]; exact F.keep b u h n
  · obtain ⟨vs, e⟩ := l a h
    rw [upd_ne (ne_of_none e hp)]; exact F.flt a h n
theorem plain_foot {ks : List Nat} (R : Rel K B ρ σ H O fp) (hp : ks.all (plainAt ρ) = true) : (fun j => if j ∈ ks then [] else fp j) = fp := by
  funext j
  by_cases hj : j ∈ ks
  · rw [if_pos hj]
    have h := List.all_eq_true.mp hp j hj
    unfold plainAt at h
    cases q : (ρ[j]?).join with
    | none =>
      refine (R.non j fun s z => ?_).symm
      rw [z] at q; cases q
    | some s =>
      rw [q] at h
      obtain ⟨v, _, z⟩ := R.slot j s (join_some q)
      cases s with
      | val d => exact z.2.symm
      | _ => cases h
  · rw [if_neg hj]
noncomputable def BInv (X X' : Cx) (B : Hp) (ks : List Nat) (g : MG) (c : M Bool) (f : M R) (its : List Slot) (fpi : List Addr) (tn : Nat → Heap → Prop) (acc : Addr) (σ : L2.St) (H₂ : Hp) (O₂ : Addr → Prop) (fp₂ : Nat → List Addr) (ds : List D) (ρe : En) (n : Nat) (s : Shared) : Prop :=
  ∃ (i : Nat) (σ' : L2.St) (H' : Hp) (O' : Addr → Prop) (fp' : Nat → List Addr) (ρ' : En) (dn rs : List D) (vs : List V), n = its.length - i ∧ i ≤ its.length ∧ Inv X' [] σ' H' s ∧ tn i s.heap ∧ (∀ b ∈ fpi, H' b = none) ∧ Rel X.K B ρ' σ' H' O' fp' ∧ Agr ks σ σ' ∧
    Fr H₂ O₂ fp₂ H' O' fp' ∧ H' acc = some (.lst vs) ∧ fl O' fp' acc ∧ IsL X.K H' dn vs ∧ dn.length ≤ i ∧ compL g c f (its.drop i) ρ' = some (rs, ρe) ∧ ds = dn ++ rs
theorem blk_loop (hc : X.calm = true) {C acc : Addr} {cells : List (Str × Addr)} {s₂ : Shared} {H₂ : Hp} {fpi : List Addr} {X' : Cx} (hX : X' = blk X scope C cells s₂ H₂ fpi) (bt : QG X' tg ks g) (bi : QTs X' ifs c) (be : QE X' elt f) (ok' : X'.Ok)
    {σ : L2.St} {O₂ : Addr → Prop} {fp₂ : Nat → List Addr} {J : It} {its : List Slot} {i0 : Addr} {tn : Nat → Heap → Prop}
    (T : Turn X.prog X.w X.K tg J fpi i0 tn) (W : Walk X.K J its H₂ O₂ fp₂) (hz : its.length < big) (hl₂ : ∀ b, O₂ b → ∃ vs, H₂ b = some (.lst vs)) (hacc : H₂ acc = none)
    {ds : List D} {ρe : En} {RR : Result → Shared → Prop}
    (k : ∀ σ' H' O' fp' vs s', Inv X' [] σ' H' s' → Rel X.K B ρe σ' H' O' fp' → Agr ks σ σ' → Fr H₂ O₂ fp₂ H' O' fp' → H' acc = some (.lst vs) → fl O' fp' acc → IsL X.K H' ds vs → RR (.ok .next) s') {s : Shared} {n : Nat}
    (h : BInv X X' B ks g c f its fpi tn acc σ H₂ O₂ fp₂ ds ρe n s) :
    codeAny (model X.prog X.w) X.A (.compLoop (.ListComp elt [⟨tg, iter, ifs, 0⟩] scope pos) 0 (.ref i0) (.ref acc) (blkEnv scope X.env C cells)) RR s := by
  subst hX
  refine loop_any (BInv X (blk X scope C cells s₂ H₂ fpi) B ks g c f its fpi tn acc σ H₂ O₂ fp₂ ds ρe) ?_ n h
  rintro n s1 ⟨i, σ', H', O', fp', ρ', dn, rs, vs, rfl, hi, I, st, fr, R', ag, F', ha, hfl, hd, hdl, hL, rfl⟩
  have stat : ∀ {H' : Hp}, (∀ b ∈ fpi, H' b = none) → ∀ b ∈ fpi, FpOk (blk X scope C cells s₂ H₂ fpi) [] H' b := fun hn b hb =>
    ⟨hn b hb, (ok'.exf b hb).1, ok'.exfs b hb, .inl hb, (ok'.exf b hb).2, fun p hp => absurd (show p ∈ ([] : List (Addr × Obj)) ++ [] from hp) (by simp)⟩
  by_cases hlt : i < its.length
  · have hd' : its.drop i = its[i] :: its.drop (i + 1) := List.drop_eq_getElem_cons hlt
    rw [hd'] at hL
    obtain ⟨ρ1, q1, hL⟩ := bind_some hL
    obtain ⟨⟨y, ρ2⟩, q2, hL⟩ := bind_some hL
    obtain ⟨g1, g2⟩ := W.go H' O' fp' F' i its[i] (by simp [hlt])
    refine thn (T.item (blk X scope C cells s₂ H₂ fpi) rfl rfl rfl hc i [] s1 σ' H' (fun _ _ => False) I (stat fr) st g1) fun r s2 ⟨u, hr, h4⟩ => ?_
    subst hr
    refine thn h4 fun _ s5 ⟨x, H5, I5, r5, y5, st5, fr5⟩ => ?_
    obtain ⟨sm, sl⟩ := g2 x H5 y5
    have I5' := I5.pinned (stat fr5) (T.obj _ _ st5)
    refine thn (bt _ s5 σ' H5 x u (fun σ6 H6 => ∃ O6 fp6, Agr ks σ' σ6 ∧ Rel X.K B ρ1 σ6 H6 O6 fp6 ∧ Fr H5 O' fp' H6 O6 fp6) I5' r5 ⟨B, ρ', O', fp', its[i], ρ1, R'.grow sm, sl, q1, fun σ6 H6 O6 fp6 A6 R6 F6 => ⟨O6, fp6, A6, R6, F6⟩⟩) fun _ s6 ⟨σ6, H6, I6, O6, fp6, A6, R6, F6⟩ => ?_
    refine thn (bi _ s6 σ6 H6 (fun b H7 => b = y ∧ ∃ O7 fp7, Rel X.K B ρ2 σ6 H7 O7 fp7 ∧ Fr H6 O6 fp6 H7 O7 fp7) I6 ⟨B, ρ1, O6, fp6, y, ρ2, R6, q2, fun H7 O7 fp7 R7 F7 => ⟨rfl, O7, fp7, R7, F7⟩⟩) fun b s7 ⟨H7, I7, hb, O7, fp7, R7, F7⟩ => ?_
    subst hb
    have F57 : Fr H' O' fp' H7 O7 fp7 := (Fr.grow R' sm).trans (F6.trans F7)
    have ag6 : Agr ks σ σ6 := ⟨A6.1.trans ag.1, fun j hj => (A6.2 j hj).trans (ag.2 j hj)⟩
    -- behind the turn
    have back : ∀ {H9 : Hp} {O9 : Addr → Prop} {fp9 : Nat → List Addr} {ρ9 : En} {dn9 rs9 : List D} {vs9 : List V} {s9 : Shared}, Inv (blk X scope C cells s₂ H₂ fpi) ([] ++ pinsAt fpi s5.heap) σ6 H9 s9 → Rel X.K B ρ9 σ6 H9 O9 fp9 → Fr H₂ O₂ fp₂ H9 O9 fp9 →
        H9 acc = some (.lst vs9) → fl O9 fp9 acc → IsL X.K H9 dn9 vs9 → dn9.length ≤ i + 1 → compL g c f (its.drop (i + 1)) ρ9 = some (rs9, ρe) → dn ++ rs = dn9 ++ rs9 →
        ∃ m, m < its.length - i ∧ BInv X (blk X scope C cells s₂ H₂ fpi) B ks g c f its fpi tn acc σ H₂ O₂ fp₂ (dn ++ rs) ρe m s9 := fun {H9 O9 fp9 ρ9 dn9 rs9 vs9 s9} I9 R9 F9 a9 f9 d9 l9 c9 e9 => by
      refine ⟨its.length - (i + 1), by omega, i + 1, σ6, H9, O9, fp9, ρ9, dn9, rs9, vs9, rfl, hlt, I9.unpinned, T.keep _ _ _ st5 fun b hb o e => (I9.pin (b, o) (List.mem_append_right _ (List.mem_append_right _ (mem_pinsAt hb e)))).1, fun b hb => ?_, R9, ag6, F9, a9, f9, d9, l9, c9, e9⟩
      obtain ⟨o, e, d⟩ := T.obj _ _ st5 b hb
      exact (I9.pin (b, o) (List.mem_append_right _ (List.mem_append_right _ (mem_pinsAt hb e)))).2.1
    have tk7 := F57.tk R'.lst
    obtain ⟨ea7, oa7, na7⟩ := F57.flt acc hfl.1 hfl.2
    cases b with
    | false =>
      rw [if_neg Bool.false_ne_true] at hL
      refine iteF ?_
      exact back I7 R7 (F'.trans F57) (ea7.trans ha) ⟨oa7, na7⟩ (hd.tk tk7) (Nat.le_succ_of_le hdl) hL rfl
    | true =>
      rw [if_pos rfl] at hL
      refine iteT ?_
      obtain ⟨⟨z, ρ3⟩, q3, hL⟩ := bind_some hL
      refine thn (be _ s7 σ6 H7 (fun v H8 => ∃ O8 fp8, Rel X.K B ρ3 σ6 H8 O8 fp8 ∧ ResOk X.K H8 O8 fp8 σ6 (fl O7 fp7) z v ∧ Fr H7 O7 fp7 H8 O8 fp8) I7 ⟨B, ρ2, O7, fp7, z, ρ3, R7, q3, fun v H8 O8 fp8 R8 k8 F8 => ⟨O8, fp8, R8, k8, F8⟩⟩) fun u8 s8 ⟨v, H8, I8, r8, O8, fp8, R8, k8, F8⟩ => ?_
      dsimp only at hL
      split at hL
      · rename_i d
        obtain ⟨⟨rs9, ρ9⟩, q4, hL⟩ := bind_some hL
        cases hL
        have F58 := F57.trans F8
        obtain ⟨ea8, oa8, na8⟩ := F58.flt acc hfl.1 hfl.2
        obtain ⟨_, ⟨hv, _⟩, _⟩ := k8
        have d8 := hd.tk (F58.tk R'.lst)
        have ea : H8 acc = some (.lst vs) := ea8.trans ha
        refine thn (mt_append (X := blk X scope C cells s₂ H₂ fpi) _ s8 σ6 H8 (.ref acc) [v] (.ref acc) [u8] (fun _ H9 => H9 = L2.upd H8 acc (.lst (vs ++ [v]))) I8 rfl (.cons r8 .nil) ⟨acc, vs, v, rfl, rfl, ea, by rw [hd.length]; exact big_line (by omega), rfl⟩) fun u9 s9 ⟨v9, H9, I9, r9, e9⟩ => ?_
        subst e9
        refine back I9 (R8.updF ea ⟨oa8, na8⟩) ((F'.trans F58).updN hl₂ hacc) upd_same ⟨oa8, na8⟩ ((d8.append (.cons hv .nil)).tk (tk_upd ea)) (by rw [List.length_append]; simp; omega) q4 (by simp)
      · cases hL
  · have e : i = its.length := by omega
    subst e
    rw [List.drop_length] at hL
    cases hL
    refine thn (T.done (blk X scope C cells s₂ H₂ fpi) rfl rfl rfl hc its.length [] s1 σ' H' (fun _ _ => False) I (stat fr) st (W.stop H' O' fp' F')) fun r s4 ⟨hr, I4⟩ => ?_
    subst hr
    exact k σ' H' O' fp' vs s4 I4 R' ag F' ha hfl (by simpa using hd)
end
end Mi
namespace Mi
open PySem L2
open PySem.Spec
variable {K : PySem.W.Frag} {H H' : Hp} {O O' : Addr → Prop} {fp fp' : Nat → List Addr} {B : Hp} {ρ ρ' : En} {σ : L2.St}
section
variable {X : Cx} {elt tg iter : Expr} {ifs : List Expr} {scope : Scope} {pos : Pos} {ks : List Nat} {g : MG} {it : M (List Slot)} {c : M Bool} {f : M R}
theorem blk_run (hc : X.calm = true) (b : Blk X scope ks tg ifs elt g c f) {pins : List (Addr × Obj)} {s₂ : Shared} {σ : L2.St} {H₂ : Hp} {O₂ : Addr → Prop} {fp₂ : Nat → List Addr} {ρ₂ : En} {J : It} {its : List Slot} {fpi : List Addr} {i0 : Addr} {tn : Nat → Heap → Prop}
    (I : Inv X pins σ H₂ s₂) (R2 : Rel X.K B ρ₂ σ H₂ O₂ fp₂) (T : Turn X.prog X.w X.K tg J fpi i0 tn) (st : tn 0 s₂.heap) (fo : ∀ b ∈ fpi, FpOk X pins H₂ b) (W : Walk X.K J its H₂ O₂ fp₂) (hz : its.length < big) (hp : ks.all (plainAt ρ₂) = true)
    {ds : List D} {ρe : En} (hL : compL g c f its (maskE ks ρ₂) = some (ds, ρe)) (hn : ks.all (noOwn ρe) = true) {use : Option (Value → Sem Unit)} {Q : Value → Shared → Prop}
    (k : ∀ (acc C : Addr) (s' : Shared) (H' : Hp) (O' : Addr → Prop) (fp' : Nat → List Addr), Inv X pins σ H' s' → Rel X.K B (unmask ks ρ₂ ρe) σ H' O' fp' → ResOk X.K H' O' fp' σ (fl O₂ fp₂) (.of (.own ds)) (.ref acc) → Fr H₂ O₂ fp₂ H' O' fp' →
      FpOk X pins H' C → (∃ m, s'.heap.Ns C m) → compPost (model X.prog X.w) X.A X.xe use Q (.ref acc) C (.ok .next) s') :
    wpAny (model X.prog X.w) X.A (newList []) (fun acc s₃ => wpAny (model X.prog X.w) X.A (newFunctionEnv scope X.env.globals (clF X.env.cells scope.names []) [] X.env.qual none .none (some X.env)) (fun cenv s₄ =>
      codeAny (model X.prog X.w) X.A (.compStart (.ListComp elt [⟨tg, iter, ifs, 0⟩] scope pos) 0 (.ref i0) acc { cenv with scope := relabel scope X.env }) (compPost (model X.prog X.w) X.A X.xe use Q acc cenv.locals) s₄) X.xe s₃) X.xe s₂ := by
  have hobj : ∀ b ∈ fpi, ∃ o, s₂.heap.get? b = some o := fun b hb => let ⟨o, h, _⟩ := T.obj 0 _ st b hb; ⟨o, h⟩
  have I1 := blk_start (ks := ks) I b.ok hc fo hobj
  refine wpAny_newObj_type (nfe ?_)
  have ez : (s₂.heap.push { cls := .type "list", dict := none, data := .seq ([] : List Value).toArray }).objs.size = s₂.heap.objs.size + 1 := Heap.size_push ..
  dsimp only
  rw [ez]
  have hfr : H₂ s₂.heap.objs.size = none := I.hok.fresh (Nat.le_refl _)
  have n1 : ∀ a, a = s₂.heap.objs.size → H₂ a = none := fun a z => by rw [z]; exact hfr
  have sm := same_new hfr (.lst [])
  have start : BInv X (blk X scope (s₂.heap.objs.size + 1) (cellsFrom (s₂.heap.objs.size + 2) scope.names (clF X.env.cells scope.names [])) s₂ H₂ fpi) B ks g c f its fpi tn s₂.heap.objs.size σ H₂ O₂ fp₂ ds ρe its.length
      { s₂ with heap := pushCells ((s₂.heap.push { cls := .type "list", data := .seq ([] : List Value).toArray }).push { cls := .type "dict", data := .dict #[] }) scope.names } := by
    have Rm := R2.mask ks
    rw [plain_foot R2 hp] at Rm
    refine ⟨0, maskS ks σ, _, fun a => O₂ a ∨ a = s₂.heap.objs.size, fp₂, maskE ks ρ₂, [], ds, [], by simp, Nat.zero_le _, I1, ?_, fun b hb => ?_, Rm.take sm n1 fun a z => ⟨[], by rw [z]; exact upd_same⟩, ⟨mask_get.1, fun j hj => mask_get.2.1 j hj⟩, Fr.take R2 sm n1, upd_same, ⟨.inr rfl, fun i z => ?_⟩, .nil, Nat.le_refl _, by simpa using hL, rfl⟩
    · exact T.keep 0 _ _ st fun b hb o e => pushCells_keeps _ _ _ _ (Heap.get?_push_of_some _ (Heap.get?_push_of_some _ e))
    · obtain ⟨o, ho⟩ := hobj b hb
      rw [upd_ne (Nat.ne_of_lt (Heap.lt_size ho))]
      exact (fo b hb).1
    · obtain ⟨vs, e⟩ := R2.lst _ (R2.sub i _ z)
      rw [hfr] at e; cases e
  have loop := blk_loop (pos := pos) (iter := iter) hc rfl (b.tg (s₂.heap.objs.size + 1) (cellsFrom (s₂.heap.objs.size + 2) scope.names (clF X.env.cells scope.names [])) s₂ H₂ fpi) (b.ifs _ _ _ _ _) (b.elt _ _ _ _ _) I1.ok T W hz R2.lst hfr
    (RR := compPost (model X.prog X.w) X.A X.xe use Q (.ref s₂.heap.objs.size) (s₂.heap.objs.size + 1)) (fun σ' H' O' fp' vs s' I' R' ag F' ha hfl hd => by
      have Ib : Inv X pins σ H' s' := I.call' (ch := fpi) I'.os I'.base I'.hok I'.bare fun b hb => ⟨(fo b hb).2.2.2.1, (fo b hb).2.1, (fo b hb).2.2.2.2.1, (fo b hb).2.2.2.2.2⟩
      refine k _ _ s' H' O' fp' Ib (Rel.unmask R2 hp R' ag (F'.tk R2.lst) hn) ⟨[s₂.heap.objs.size], ⟨_, vs, rfl, ha, hd, rfl⟩, by simp, fun a z => ?_⟩ F' (I.fpOk (Nat.le_succ _) I'.free) (let ⟨m, h, _⟩ := I'.loc; ⟨m, h⟩)
      have z' : a = s₂.heap.objs.size := by simpa using z
      subst z'
      exact ⟨hfl, fun z => by obtain ⟨us, e⟩ := R2.lst _ z.1; rw [hfr] at e; cases e⟩) start
  exact codeAny_compStart_list loop (T.self _ 0 _ _ _ (T.keep 0 _ _ st fun b hb o e => pushCells_keeps _ _ _ _ (Heap.get?_push_of_some _ (Heap.get?_push_of_some _ e))) loop)
theorem mComp_of {r : R} (hf : mComp ks g it c f ρ = some (r, ρ')) : ∃ its ρ2 ds ρe, it ρ = some (its, ρ2) ∧ its.length < big ∧ ks.all (plainAt ρ2) = true ∧ compL g c f its (maskE ks ρ2) = some (ds, ρe) ∧ ks.all (noOwn ρe) = true ∧ r = .of (.own ds) ∧ ρ' = unmask ks ρ2 ρe := by
  obtain ⟨⟨its, ρ2⟩, h1, hf⟩ := bind_some hf
  dsimp only at hf
  split at hf
  · rename_i hz
    obtain ⟨⟨ds, ρe⟩, h2, hf⟩ := bind_some hf
    dsimp only at hf
    split at hf
    · rename_i hn
      cases hf
      exact ⟨its, ρ2, ds, ρe, h1, hz.1, hz.2, h2, hn, rfl, rfl⟩
    · cases hf
  · cases hf
theorem names_of (c : CompOk scope X.env.scope.names X.N ks) : ∀ x ∈ scope.names, x.2 = .local → scope.names.lookup x.1 = some .local := fun x hx h => by
  obtain ⟨y, kd⟩ := x
  have h : kd = .local := h
  subst h
  exact lookup_of_mem c.nd hx
theorem q_comp (hc : X.calm = true) (hi : QI X tg iter it) (b : Blk X scope ks tg ifs elt g c f) (hs : ∀ x, foldedSetIterable iter X.env x = pure x := by intro _; rfl) : QE X (.ListComp elt [⟨tg, iter, ifs, 0⟩] scope pos) (mComp ks g it c f) := by
  intro pins s σ H Q I ⟨B, ρ, O, fp, r, ρ', R, hf, k⟩
  obtain ⟨its, ρ2, ds, ρe, h1, hz, hp, hL, hn, rfl, rfl⟩ := mComp_of hf
  rw [eval_ListComp]
  refine wpAny_comprehension_free (use := none) rfl hs (closure_pure fun x hx => I.ok.has x (b.ok.free x hx)) b.ok.kind (names_of b.ok) ?_
  refine thn (hi pins s σ H (fun J H' => ∃ O' fp', Rel X.K B ρ2 σ H' O' fp' ∧ Fr H O fp H' O' fp' ∧ Walk X.K J its H' O' fp') I ⟨B, ρ, O, fp, its, ρ2, R, h1, fun J H' O' fp' R' F' W' => ⟨O', fp', R', F', W'⟩⟩) fun v s1 q1 => thn q1 fun itv s2 q2 => ?_
  obtain ⟨i0, fpi, tn, J, H2, e, I2, T, st2, f2, O2, fp2, R2, F2, W2⟩ := q2
  subst e
  refine blk_run hc b I2 R2 T st2 f2 W2 hz hp hL hn fun acc C s' H' O' fp' I' R' k' F' fC hN => ?_
  obtain ⟨m, hm⟩ := hN
  refine ⟨m, hm, fun h' sb => ⟨.ref acc, H', ?_, rfl, k _ H' O' fp' R' (k'.back F2.fl) (F2.trans F')⟩⟩
  exact I'.turned (t' := s'.toks) (fun b o hb e => (sb.2 b hb).trans e) fC.1 fC.2.1 fC.2.2.2.1 fC.2.2.2.2.1 fC.2.2.2.2.2
end
end Mi
namespace Mi
open PySem L2
open PySem.Spec
section
variable {X : Cx} {elt tg iter : Expr} {ifs : List Expr} {scope : Scope} {pos py spos : Pos} {ks : List Nat} {g : MG} {it : M (List Slot)} {c : M Bool} {f : M R} {i : Nat} {x : Str}
theorem qs_setC (hc : X.calm = true) (hN : X.N.Nodup) (hi' : X.N[i]? = some x) (hx : X.env.scope.names.lookup x = some .local) (hi : QI X tg iter it) (b : Blk X scope ks tg ifs elt g c f)
    (hsw : swapsWith (.ListComp elt [⟨tg, iter, ifs, 0⟩] scope pos) (some (.Name x py)) spos.line X.env = pure true := by rfl) (hs : ∀ x, foldedSetIterable iter X.env x = pure x := by intro _; rfl) :
    QS X (.Assign [.Name x py] (.ListComp elt [⟨tg, iter, ifs, 0⟩] scope pos) spos) (sSet i (mComp ks g it c f)) := by
  intro pins s σ H Dn I h
  obtain ⟨B, ρ, O, fp, o, R, hg, k⟩ := h
  obtain ⟨⟨xr, ρ'⟩, hf, hg⟩ := bind_some hg
  obtain ⟨its, ρ2, ds, ρe, h1, hz, hp, hL, hn, rfl, rfl⟩ := mComp_of hf
  dsimp only at hg
  split at hg
  · rename_i hlt
    cases hg
    rw [exec_Assign_Name_used _ _ _ _ hsw]
    refine wpAny_bind (wpAny_standAt (wpAny_bind ?_))
    show wpAny _ X.A (do let _ ← comprehension (.ListComp elt [⟨tg, iter, ifs, 0⟩] scope pos) scope X.env _ (newList []) false (eval iter X.env) (some (assign (.Name x py) X.env))) _ _ s
    refine wpAny_bind (wpAny_mono (wpAny_comprehension_free (use := some (assign (.Name x py) X.env)) (Q := fun _ s' => SP X pins Dn .next s') rfl hs (closure_pure fun x hx => I.ok.has x (b.ok.free x hx)) b.ok.kind (names_of b.ok) ?_) (fun _ s' hq => wpAny_pure (wpAny_pure hq)) fun _ _ e => e)
    refine thn (hi pins s σ H (fun J H' => ∃ O' fp', Rel X.K B ρ2 σ H' O' fp' ∧ Fr H O fp H' O' fp' ∧ Walk X.K J its H' O' fp') I ⟨B, ρ, O, fp, its, ρ2, R, h1, fun J H' O' fp' R' F' W' => ⟨O', fp', R', F', W'⟩⟩) fun v s1 q1 => thn q1 fun itv s2 q2 => ?_
    obtain ⟨i0, fpi, tn, J, H2, e, I2, T, st2, f2, O2, fp2, R2, F2, W2⟩ := q2
    subst e
    refine blk_run hc b I2 R2 T st2 f2 W2 hz hp hL hn fun acc C s' H' O' fp' I' R' k' F' fC hN' => ?_
    obtain ⟨m, hm⟩ := hN'
    show wpAny _ X.A (assign (.Name x py) X.env (.ref acc)) _ _ _
    refine wpAny_assign_Name (store_ok2 I' hN hi' (.inl hx) (show RelV (.ref acc) (.ref acc) from rfl) (fun s'' I'' ⟨a, sb, ha⟩ => ?_) (.inr hx))
    have hCa : C ≠ a := fun z => by
      rcases ha with q | q
      · exact fC.2.1 (z.trans q)
      · exact fC.2.2.2.2.1 x a q z.symm
    refine ⟨m, hm.sameBut sb hCa, fun h' sb' => ?_⟩
    obtain ⟨fr, hs', nd, hff⟩ := k'
    refine ⟨σ.set i (some (.ref acc)), H', I''.turned (t' := s''.toks) (fun b o hb e => (sb'.2 b hb).trans e) fC.1 fC.2.1 fC.2.2.2.1 fC.2.2.2.2.1 fC.2.2.2.2.2, ?_⟩
    exact k _ H' O' _ (R'.set hs' nd (fun a ha => (hff a ha).1) hlt) ((F2.trans F').set i fun a ha z => (hff a ha).2 (F2.fl a z))
  · cases hg
end
end Mi
namespace Mi
open PySem L2
open PySem.Spec
variable {K : PySem.W.Frag} {H H' : Hp} {O O' : Addr → Prop} {fp fp' : Nat → List Addr} {B : Hp} {ρ ρ' : En} {σ : L2.St}
mutual
noncomputable def toP : D → PyData
  | .non => .none
  | .bl b => .bool b
  | .int i => .int i
  | .str x => .str x
  | .tup ds => .tuple (toPs ds)
  | .fn _ => .str ⟨#[1114112]⟩
  | .dct _ => .str ⟨#[1114112]⟩
noncomputable def toPs : List D → List PyData
  | [] => []
  | d :: r => toP d :: toPs r
end
noncomputable def toPss : List (List D) → List PyData
  | [] => []
  | ds :: r => .list (toPs ds) :: toPss r
noncomputable def toS : Slot → PyData
  | .val d => toP d
  | .fz ds => .list (toPs ds)
  | .own ds => .list (toPs ds)
  | .fz2 dss => .list (toPss dss)
  | .own2 dss => .list (toPss dss)
section
variable {X : Cx} {pins : List (Addr × Obj)} {s : Shared}
mutual
theorem reads_is (I : Inv X pins σ H s) : ∀ (d : D) (v : V) (u : Value), (toP d).canLay0 = true → Is X.K H d v → RelV v u → ∃ as, Reads s.heap u (toP d) as
  | .fn x, v, u, hz, h, r => by
    have hz : (PyData.str ⟨#[1114112]⟩).canLay0 = true := hz
    simp [PyData.canLay0, PyData.strOk] at hz
  | .dct x, v, u, hz, h, r => by
    have hz : (PyData.str ⟨#[1114112]⟩).canLay0 = true := hz
    simp [PyData.canLay0, PyData.strOk] at hz
  | .non, v, u, _, h, r => by
    have h : v = .non := h
    subst h
    have r : u = Value.none := r
    subst r
    exact ⟨[], .none⟩
  | .bl b, v, u, _, h, r => by
    have h : v = .bl b := h
    subst h
    have r : u = Value.bool b := r
    subst r
    exact ⟨[], .bool b⟩
  | .int i, v, u, _, h, r => by
    have h : v = .int i := h
    subst h
    obtain ⟨t, rfl⟩ := r
    exact ⟨[], .int i t⟩
  | .str x, v, u, _, h, r => by
    have h : v = .str x := h
    subst h
    obtain ⟨t, rfl⟩ := r
    exact ⟨[], .str x t⟩
  | .tup ds, v, u, hz, h, r => by
    obtain ⟨a, vs, rfl, q, l⟩ := h
    have r : u = Value.ref a := r
    subst r
    obtain ⟨its, rv, ⟨o, e, c, n, hd⟩, _⟩ := I.tuple q
    obtain ⟨as, ra⟩ := reads_isL I ds vs its hz l rv
    exact ⟨as, .tuple e c hd (by simpa using ra)⟩
theorem reads_isL (I : Inv X pins σ H s) : ∀ (ds : List D) (vs : List V) (us : List Value), PyData.canLayAll0 (toPs ds) = true → IsL X.K H ds vs → Vals vs us → ∃ as, ReadsAll s.heap us (toPs ds) as
  | [], vs, us, _, h, r => by
    have h : vs = [] := h
    subst h
    cases r
    exact ⟨[], .nil⟩
  | d :: ds, vs, us, hz, h, r => by
    have hz : ((toP d).canLay0 && PyData.canLayAll0 (toPs ds)) = true := hz
    rw [Bool.and_eq_true] at hz
    obtain ⟨v, ws, rfl, h1, h2⟩ := h
    cases r with
    | cons r1 r2 =>
      obtain ⟨as, ra⟩ := reads_is I d v _ hz.1 h1 r1
      obtain ⟨bs, rb⟩ := reads_isL I ds ws _ hz.2 h2 r2
      exact ⟨as ++ bs, .cons ra rb⟩
end
theorem reads_ls (I : Inv X pins σ H s) {a : Addr} {vs : List V} {ds : List D} (hz : PyData.canLayAll0 (toPs ds) = true) (q : SqL X.K H a vs) (l : IsL X.K H ds vs) : ∃ as, Reads s.heap (.ref a) (.list (toPs ds)) as := by
  obtain ⟨its, rv, ⟨o, n, e, c, _, hd⟩, _⟩ := I.list q
  obtain ⟨as, ra⟩ := reads_isL I ds vs its hz l rv
  exact ⟨a :: as, .list e c hd (by simpa using ra)⟩
theorem reads_fz (I : Inv X pins σ H s) : ∀ (dss : List (List D)) (vs : List V) (us : List Value), PyData.canLayAll0 (toPss dss) = true → FzL X.K H O dss vs → Vals vs us → ∃ as, ReadsAll s.heap us (toPss dss) as
  | [], vs, us, _, h, r => by
    have h : vs = [] := h
    subst h
    cases r
    exact ⟨[], .nil⟩
  | ds :: dss, vs, us, hz, h, r => by
    have hz : (PyData.canLayAll0 (toPs ds) && PyData.canLayAll0 (toPss dss)) = true := hz
    rw [Bool.and_eq_true] at hz
    obtain ⟨a, ws, rr, rfl, h1, h2, h3⟩ := h
    cases r with
    | cons r1 r2 =>
      obtain ⟨as, ra⟩ := reads_ls I hz.1 h1.sq h2
      have r1 : _ = Value.ref a := r1
      subst r1
      obtain ⟨bs, rb⟩ := reads_fz I dss rr _ hz.2 h3 r2
      exact ⟨as ++ bs, .cons ra rb⟩
theorem reads_slot (I : Inv X pins σ H s) {t : Slot} {v : V} {u : Value} (hz : (toS t).canLay0 = true) (h : RdOk X.K H t v) (r : RelV v u) : ∃ as, Reads s.heap u (toS t) as := by
  cases t with
  | val d => exact reads_is I d v u hz h.1 r
  | fz ds =>
    obtain ⟨⟨a, vs, rfl, q, l⟩, _⟩ := h
    have r : u = Value.ref a := r
    subst r
    exact reads_ls I hz q.sq l
  | fz2 dss =>
    obtain ⟨⟨a, vs, rfl, q, l⟩, _⟩ := h
    have r : u = Value.ref a := r
    subst r
    obtain ⟨its, rv, ⟨o, n, e, c, _, hd⟩, _⟩ := I.list q.sq
    obtain ⟨as, ra⟩ := reads_fz I dss vs its hz l rv
    exact ⟨a :: as, .list e c hd (by simpa using ra)⟩
  | own ds =>
    obtain ⟨p, vs, rfl, q, l, z⟩ := h
    cases z
  | own2 dss =>
    obtain ⟨p, vs, rfl, q, l, z⟩ := h
    cases z
end
noncomputable def okP (d : PyData) : Bool := d.canLay0 && decide (d.depth ≤ 60)
noncomputable def gEq (neg : Bool) : List Slot → Option Slot := fun ss => match ss with
  | [a, b] => if okP (toS a) && okP (toS b) then some (.val (.bl (if neg then !PyData.eqv (toS a) (toS b) else PyData.eqv (toS a) (toS b)))) else none
  | _ => none
noncomputable def rEqQ (K : PySem.W.Frag) (neg : Bool) : R2 := fun x y H Q => ∃ a b, RdOk K H a x ∧ RdOk K H b y ∧ okP (toS a) = true ∧ okP (toS b) = true ∧ Q (.bl (if neg then !PyData.eqv (toS a) (toS b) else PyData.eqv (toS a) (toS b))) H
section
variable {X : Cx} {a b e : Expr} {f g : M R} {pos : Pos}
theorem okP_of {d : PyData} (h : okP d = true) : d.canLay0 = true ∧ d.depth ≤ 60 := by
  simpa [okP] using h
theorem op_eqQ (hu : X.A.units + 64 < cLine) : OpR X (compareOp .Eq) (rEqQ X.K false) := fun pins s σ H x y v u Q I rx ry h => by
  obtain ⟨p, q, h1, h2, h3, h4, hq⟩ := h
  obtain ⟨c1, d1⟩ := okP_of h3
  obtain ⟨c2, d2⟩ := okP_of h4
  obtain ⟨as, ra⟩ := reads_slot I c1 h1 rx
  obtain ⟨bs, rb⟩ := reads_slot I c2 h2 ry
  exact SeqAt.compareEq_reads ra rb c1 c2 (by omega) ⟨.bl _, H, I, rfl, hq⟩
theorem op_neQ (hu : X.A.units + 64 < cLine) : OpR X (compareOp .NotEq) (rEqQ X.K true) := fun pins s σ H x y v u Q I rx ry h => by
  obtain ⟨p, q, h1, h2, h3, h4, hq⟩ := h
  obtain ⟨c1, d1⟩ := okP_of h3
  obtain ⟨c2, d2⟩ := okP_of h4
  obtain ⟨as, ra⟩ := reads_slot I c1 h1 rx
  obtain ⟨bs, rb⟩ := reads_slot I c2 h2 ry
  exact SeqAt.compareNe_reads ra rb c1 c2 (by omega) ⟨.bl _, H, I, rfl, hq⟩
theorem sr_eq {neg : Bool} : SR K (gEq neg) (r2 (rEqQ K neg)) := fun H ss vs s Q hr h k => by
  unfold gEq at h
  split at h
  · rename_i a b
    split at h
    · rename_i hz
      rw [Bool.and_eq_true] at hz
      cases h
      obtain ⟨v, us, rfl, h1, u, ws, rfl, h2, h3⟩ := hr
      have h3 : ws = [] := h3
      subst h3
      exact ⟨v, u, rfl, a, b, h1, h2, hz.1, hz.2, k _ H (Same.refl H) rfl⟩
    · cases h
  · cases h
theorem q_eq (hu : X.A.units + 64 < cLine) (ha : QE X a f) (hb : QE X b g) : QE X (.Compare a [.Eq] [b] pos) (mOpF (gEq false) (mCons f (mCons g mNil))) := q_cmp (op_eqQ hu) sr_eq ha hb (nomark _)
theorem qt_eq (hu : X.A.units + 64 < cLine) (ha : QE X a f) (hb : QE X b g) : QT X (.Compare a [.Eq] [b] pos) (mTru (mOpF (gEq false) (mCons f (mCons g mNil)))) := qt_cmp (op_eqQ hu) sr_eq ha hb (nomark _)
theorem qt_ne (hu : X.A.units + 64 < cLine) (ha : QE X a f) (hb : QE X b g) : QT X (.Compare a [.NotEq] [b] pos) (mTru (mOpF (gEq true) (mCons f (mCons g mNil)))) := qt_cmp (op_neQ hu) sr_eq ha hb (nomark _)
noncomputable def tyN : Slot → String
  | .val .non => "NoneType"
  | .val (.bl _) => "bool"
  | .val (.int _) => "int"
  | .val (.str _) => "str"
  | .val (.tup _) => "tuple"
  | _ => "list"
noncomputable def isT (t T : String) : Bool := t == T || (t == "bool" && T == "int")
noncomputable def gIsi (T : String) : List Slot → Option Slot := fun ss => match ss with
  | [.val (.fn _)] => none
  | [.val (.dct _)] => none
  | [s] => some (.val (.bl (isT (tyN s) T)))
  | _ => none
structure Kit (K : PySem.W.Frag) (T : String) : Prop where
  at_ : ∀ t ∈ ["NoneType", "bool", "int", "str", "tuple", "list"], PySem.W.kitOne K (.type t) (.type T) = some (isT t T)
end
end Mi
namespace Mi
open PySem L2
open PySem.Spec
variable {K : PySem.W.Frag} {H H' : Hp} {O O' : Addr → Prop} {fp fp' : Nat → List Addr} {B : Hp} {ρ ρ' : En} {σ : L2.St}
theorem ints_items {ns : List Int} {us : List Value} (r : Vals (ns.map V.int) us) : ∃ xs : Array (Int × Tok), us.toArray = intItems xs ∧ xs.toList.map (·.1) = ns := by
  induction ns generalizing us with
  | nil => cases r; exact ⟨#[], by simp [intItems], rfl⟩
  | cons n ns ih =>
    cases r with
    | cons r1 r2 =>
      obtain ⟨xs, e1, e2⟩ := ih r2
      obtain ⟨t, rfl⟩ := r1
      refine ⟨((n, t) :: xs.toList).toArray, ?_, by simp [e2]⟩
      have e3 := congrArg Array.toList e1
      simp only [intItems, Array.toList_map] at e3
      rw [show (_ :: _ : List Value).toArray = _ from rfl]
      simp only [intItems]
      rw [← Array.toList_inj]
      simp [← e3]
section
variable {X : Cx}
theorem sum_eq (xs : Array (Int × Tok)) : preSum (numAt xs) xs.size = (xs.toList.map (·.1)).sum := by rw [preSum_eq, List.take_of_length_le (by simp)]
theorem call_sumL (hc : X.calm = true) : CallR X (.builtin "sum") (fun xs H Q => ∃ (p : Addr) (ns : List Int), xs = [.ref p] ∧ SqL X.K H p (ns.map .int) ∧ Q (.int ns.sum) H) := fun pins s σ H xs us Q I r h => by
  obtain ⟨p, ns, rfl, hp, hq⟩ := h
  obtain ⟨u, rfl, r1⟩ := vals1 r
  have r1 : u = Value.ref p := r1
  subst r1
  obtain ⟨its, rv, pl, hz⟩ := I.list hp
  obtain ⟨ys, e1, e2⟩ := ints_items rv
  have hl := pl.isList
  rw [e1] at hl
  refine sum_intListG (I.ok.hd hc) hl fun h' tk t' kp => ⟨.int _, H, I.kept kp, ⟨t', ?_⟩, hq⟩
  rw [sum_eq, e2]
theorem call_sumT (hc : X.calm = true) : CallR X (.builtin "sum") (fun xs H Q => ∃ (p : Addr) (ns : List Int), xs = [.ref p] ∧ SqT X.K H p (ns.map .int) ∧ Q (.int ns.sum) H) := fun pins s σ H xs us Q I r h => by
  obtain ⟨p, ns, rfl, hp, hq⟩ := h
  obtain ⟨u, rfl, r1⟩ := vals1 r
  have r1 : u = Value.ref p := r1
  subst r1
  obtain ⟨its, rv, pl, hz⟩ := I.tuple hp
  obtain ⟨ys, e1, e2⟩ := ints_items rv
  have hl : s.heap.IsTuple p (intItems ys) := by rw [← e1]; exact pl
  have hlt : p < s.heap.objs.size := by obtain ⟨_, e, _⟩ := hl; exact Heap.lt_size e
  refine call_sum_walkG (wpAny_pyIter_tuple hl ?_)
  refine ⟨s.heap.objs.size, [s.heap.objs.size, p], [s.heap.objs.size], _, _, _, numAt ys, rfl, Walks.tuple (A := X.A.in1) (I.ok.hd hc) _ p (Nat.ne_of_lt hlt) (intItems ys), ⟨⟨_, Heap.get?_push_size _ rfl, rfl, rfl⟩, ?_⟩, fun b hb => ?_, (fun _ _ => intItems_at), fun h' tk t' hk => ?_⟩
  · obtain ⟨o, e, c⟩ := hl
    exact ⟨o, Heap.get?_push_of_some _ e, c⟩
  · show b < (s.heap.push _).objs.size
    rw [Heap.size_push]
    rcases List.mem_cons.mp hb with z | z
    · rw [z]; exact Nat.lt_succ_self _
    · have z' : b = p := by simpa using z
      rw [z']; exact Nat.lt_succ_of_lt hlt
  · have kp : ∀ b o, s.heap.get? b = some o → h'.get? b = some o := fun b o e => hk b o (fun z => by
      have z' : b = s.heap.objs.size := by simpa using z
      exact absurd (Heap.lt_size e) (by rw [z']; exact Nat.lt_irrefl _)) (Heap.get?_push_of_some _ e)
    refine ⟨.int _, H, I.kept (t' := tk) kp, ⟨t', ?_⟩, hq⟩
    rw [show (intItems ys).size = ys.size by simp [intItems], sum_eq, e2]
noncomputable def intsOf : List D → Option (List Int)
  | [] => some []
  | .int i :: r => (intsOf r).bind fun ns => some (i :: ns)
  | _ => none
theorem intsOf_eq : ∀ {ds : List D} {ns : List Int}, intsOf ds = some ns → ds = ns.map D.int
  | [], ns, h => by cases h; rfl
  | .int i :: r, ns, h => by
    obtain ⟨ms, h1, h⟩ := bind_some h
    cases h
    rw [intsOf_eq h1]; rfl
  | .non :: _, _, h => by cases h
  | .bl _ :: _, _, h => by cases h
  | .str _ :: _, _, h => by cases h
  | .tup _ :: _, _, h => by cases h
  | .fn _ :: _, _, h => by cases h
  | .dct _ :: _, _, h => by cases h
theorem intsOf_map (ns : List Int) : intsOf (ns.map D.int) = some ns := by
  induction ns with
  | nil => rfl
  | cons n r ih => show ((intsOf (r.map D.int)).bind fun ns => some (n :: ns)) = _; rw [ih]; rfl
noncomputable def gSum : List Slot → Option Slot := fun ss => match ss with
  | [.val (.tup ds)] => (intsOf ds).bind fun ns => some (.val (.int ns.sum))
  | [.fz ds] => (intsOf ds).bind fun ns => some (.val (.int ns.sum))
  | _ => none
theorem sr_sum : SR K gSum (fun xs H Q => (∃ (p : Addr) (ns : List Int), xs = [.ref p] ∧ SqL K H p (ns.map .int) ∧ Q (.int ns.sum) H) ∨ ∃ (p : Addr) (ns : List Int), xs = [.ref p] ∧ SqT K H p (ns.map .int) ∧ Q (.int ns.sum) H) := fun H ss vs s Q hr h k => by
  unfold gSum at h
  split at h
  · rename_i ds
    obtain ⟨ns, h1, h⟩ := bind_some h
    cases h
    obtain ⟨v, us, rfl, ⟨⟨a, ws, rfl, q, l⟩, _⟩, h2⟩ := hr
    have h2 : us = [] := h2
    subst h2
    rw [intsOf_eq h1] at l
    rw [l.ints] at q
    exact .inr ⟨a, ns, rfl, q, k _ H (Same.refl H) rfl⟩
  · rename_i ds
    obtain ⟨ns, h1, h⟩ := bind_some h
    cases h
    obtain ⟨v, us, rfl, ⟨⟨a, ws, rfl, q, l⟩, _⟩, h2⟩ := hr
    have h2 : us = [] := h2
    subst h2
    rw [intsOf_eq h1] at l
    rw [l.ints] at q
    exact .inl ⟨a, ns, rfl, q.sq, k _ H (Same.refl H) rfl⟩
  · cases h
theorem call_sum (hc : X.calm = true) : CallR X (.builtin "sum") (fun xs H Q => (∃ (p : Addr) (ns : List Int), xs = [.ref p] ∧ SqL X.K H p (ns.map .int) ∧ Q (.int ns.sum) H) ∨ ∃ (p : Addr) (ns : List Int), xs = [.ref p] ∧ SqT X.K H p (ns.map .int) ∧ Q (.int ns.sum) H) :=
  (call_sumL hc).or (call_sumT hc)
end
section
variable {X : Cx} {a : Expr} {p pos pt : Pos} {x1 : Nat} {elts : List Expr}
noncomputable def enumD (ds : List D) : List Slot := (List.range ds.length).map fun (i : Nat) => .val (.tup [.int (i : Int), ds.getD i .non])
noncomputable def mEnum (f : M (List R)) : M (List Slot) := fun ρ => (f ρ).bind fun x => match x.1 with
  | [.of (.fz ds)] => some (enumD ds, x.2)
  | [.of (.own ds)] => some (enumD ds, x.2)
  | _ => none
end
end Mi
namespace Mi
open PySem L2
open PySem.Spec
variable {K : PySem.W.Frag} {H H' : Hp} {O O' : Addr → Prop} {fp fp' : Nat → List Addr} {B : Hp} {ρ ρ' : En} {σ : L2.St}
noncomputable def fzS : Slot → Slot
  | .own ds => .fz ds
  | .own2 dss => .fz2 dss
  | s => s
theorem FzL.ofOw2 : ∀ {dss : List (List D)} {qs : List Addr}, OwL K H dss qs → (∀ a ∈ qs, ¬ O' a) → FzL K H O' dss (qs.map .ref)
  | [], _, h, _ => by
    have h' : _ = [] := h
    subst h'; exact rfl
  | ds :: dss, qs, h, w => by
    obtain ⟨q, us, r, rfl, h1, h2, h3⟩ := h
    exact ⟨q, us, _, rfl, .inl ⟨h1, w q (by simp)⟩, h2, FzL.ofOw2 h3 fun a ha => w a (by simp [ha])⟩
theorem SlotOk.less {s : Slot} {v : V} {f : List Addr} (h : SlotOk K H O s v f) (w : ∀ a, O' a → O a) : SlotOk K H O' s v f := by
  cases s with
  | val d => exact h
  | fz ds =>
    obtain ⟨⟨a, vs, e, h1, h2⟩, h3⟩ := h
    exact ⟨⟨a, vs, e, h1.weak w, h2⟩, h3⟩
  | fz2 dss =>
    obtain ⟨⟨a, vs, e, h1, h2⟩, h3⟩ := h
    exact ⟨⟨a, vs, e, h1.weak w, FzL.weak w h2⟩, h3⟩
  | own ds => exact h
  | own2 dss => exact h
theorem SlotOk.froze {s : Slot} {v : V} {f : List Addr} (h : SlotOk K H O s v f) (w : ∀ a, O' a → O a) (n : ∀ a ∈ f, ¬ O' a) : SlotOk K H O' (fzS s) v [] := by
  cases s with
  | val d => exact ⟨h.1, rfl⟩
  | fz ds =>
    obtain ⟨⟨a, vs, e, h1, h2⟩, h3⟩ := h
    exact ⟨⟨a, vs, e, h1.weak w, h2⟩, rfl⟩
  | fz2 dss =>
    obtain ⟨⟨a, vs, e, h1, h2⟩, h3⟩ := h
    exact ⟨⟨a, vs, e, h1.weak w, FzL.weak w h2⟩, rfl⟩
  | own ds =>
    obtain ⟨p, vs, e, h1, h2, rfl⟩ := h
    exact ⟨⟨p, vs, e, .inl ⟨h1, n p (by simp)⟩, h2⟩, rfl⟩
  | own2 dss =>
    obtain ⟨p, qs, e, h1, h2, rfl⟩ := h
    exact ⟨⟨p, _, e, .inl ⟨h1, n p (by simp)⟩, FzL.ofOw2 h2 fun a ha => n a (by simp [ha])⟩, rfl⟩
theorem Rel.freeze (r : Rel K B ρ σ H O fp) {i : Nat} {s : Slot} (h : ρ[i]? = some (some s)) : Rel K B (ρ.set i (some (fzS s))) σ H (fun a => O a ∧ a ∉ fp i) (fun j => if j = i then [] else fp j) ∧
    Fr H O fp H (fun a => O a ∧ a ∉ fp i) (fun j => if j = i then [] else fp j) := by
  have hi := (List.getElem?_eq_some_iff.mp h).1
  refine ⟨⟨by simpa using r.len, fun j t e => ?_, fun j e => ?_, fun j k a h1 h2 => ?_, fun j => ?_, fun j a e => ?_, fun b e => r.lst b e.1, fun b e => r.new b e.1, r.keep⟩, fun b o e _ => e, fun b e => .inl e.1, fun a e n => ⟨rfl, ⟨e, n i⟩, fun j => ?_⟩⟩
  · by_cases q : j = i
    · subst q
      rw [List.getElem?_set_self hi] at e
      cases e
      obtain ⟨v, h1, h2⟩ := r.slot j s h
      refine ⟨v, h1, ?_⟩
      rw [if_pos rfl]
      exact h2.froze (fun a z => z.1) fun a ha z => z.2 ha
    · rw [List.getElem?_set_ne (Ne.symm q)] at e
      obtain ⟨v, h1, h2⟩ := r.slot j t e
      refine ⟨v, h1, ?_⟩
      rw [if_neg q]
      exact h2.less fun a z => z.1
  · by_cases q : j = i
    · rw [if_pos q]
    · rw [if_neg q]
      exact r.non j fun t z => e t (by rw [List.getElem?_set_ne (Ne.symm q)]; exact z)
  · by_cases q : j = i
    · rw [if_pos q] at h1; simp at h1
    · by_cases q' : k = i
      · rw [if_pos q'] at h2; simp at h2
      · rw [if_neg q] at h1; rw [if_neg q'] at h2
        exact r.dis j k a h1 h2
  · by_cases q : j = i
    · rw [if_pos q]; exact List.nodup_nil
    · rw [if_neg q]; exact r.nd j
  · by_cases q : j = i
    · rw [if_pos q] at e; simp at e
    · rw [if_neg q] at e
      exact ⟨r.sub j a e, fun z => q (r.dis j i a e z)⟩
  · show a ∉ if j = i then [] else fp j
    by_cases q : j = i
    · rw [if_pos q]; simp
    · rw [if_neg q]; exact n j
noncomputable def mFr (i : Nat) : M R := fun ρ => (ρ[i]?).join.bind fun s => some (.of (fzS s), ρ.set i (some (fzS s)))
section
variable {X : Cx} {e a b tg : Expr} {es : List Expr} {pos : Pos}
theorem q_fr {i : Nat} (h : PE X e (tVar i)) : QE X e (mFr i) := h.imp fun σ H Q ⟨B, ρ, O, fp, r, ρ', R, hf, k⟩ => by
  obtain ⟨s, q, hf⟩ := bind_some hf
  cases hf
  obtain ⟨v, hv, hs⟩ := R.slot i s (join_some q)
  obtain ⟨R1, F1⟩ := R.freeze (join_some q)
  refine ⟨v, hv, k v H _ _ R1 ⟨[], hs.froze (fun a z => z.1) fun a ha z => z.2 ha, List.nodup_nil, fun a z => by simp at z⟩ F1⟩
theorem pi_seq {l : Expr} {tl : TE} (hl : PE X l tl) : PI X tg l (fun σ H R => tl σ H fun x H1 => ∃ a, x = .ref a ∧ (((∃ xs, SqL X.K H1 a xs) ∧ R (Itl X.K a) H1) ∨ ((∃ xs, SqT X.K H1 a xs) ∧ R (Itt X.K a) H1))) := by
  intro pins s σ H R I h
  refine thn (hl pins s σ H _ I h) fun v s1 ⟨x, H1, I1, r1, q1⟩ => ?_
  obtain ⟨a, e, q⟩ := q1
  subst e
  cases r1
  rcases q with ⟨⟨xs, hq⟩, q⟩ | ⟨⟨xs, hq⟩, q⟩
  · obtain ⟨its, rv, p, hz⟩ := I1.list hq
    refine wpAny_pyIter_list p.isList ?_
    refine ⟨s1.heap.objs.size, [s1.heap.objs.size], _, _, H1, rfl, I1.kept (t' := s1.toks) fun b o e => Heap.get?_push_of_some _ e, turn_list a _, ⟨_, Heap.get?_push_size _ rfl, rfl, rfl⟩, fun b hb => ?_, q⟩
    have e : b = s1.heap.objs.size := by simpa using hb
    subst e
    exact I1.fpOk (Nat.le_refl _) (I1.hok.fresh (Nat.le_refl _))
  · obtain ⟨its, rv, p, hz⟩ := I1.tuple hq
    refine wpAny_pyIter_tuple (show s1.heap.IsTuple a its.toArray from p) ?_
    refine ⟨s1.heap.objs.size, [s1.heap.objs.size], _, _, H1, rfl, I1.kept (t' := s1.toks) fun b o e => Heap.get?_push_of_some _ e, turn_tuple a _, ⟨_, Heap.get?_push_size _ rfl, rfl, rfl⟩, fun b hb => ?_, q⟩
    have e : b = s1.heap.objs.size := by simpa using hb
    subst e
    exact I1.fpOk (Nat.le_refl _) (I1.hok.fresh (Nat.le_refl _))
noncomputable def mItS (f : M R) : M (List Slot) := fun ρ => (f ρ).bind fun x => match x.1 with
  | .of (.val (.tup ds)) => some (ds.map .val, x.2)
  | .of (.fz ds) => some (ds.map .val, x.2)
  | .of (.own ds) => some (ds.map .val, x.2)
  | .of (.fz2 dss) => some (dss.map .fz, x.2)
  | _ => none
theorem walk_lst2 {a : Addr} {dss : List (List D)} {vs : List V} (hl : ∀ b, O b → ∃ vs, H b = some (.lst vs)) (q : LsA K H O a vs) (l : FzL K H O dss vs) : Walk K (Itl K a) (dss.map Slot.fz) H O fp := by
  have gt : ∀ {H : Hp} {O : Addr → Prop} {dss : List (List D)} {vs : List V} {i : Nat} {ds : List D}, FzL K H O dss vs → dss[i]? = some ds → ∃ v, vs[i]? = some v ∧ SlotOk K H O (.fz ds) v [] := by
    intro H O dss
    induction dss with
    | nil => intro vs i ds _ e; simp at e
    | cons d r ih =>
      intro vs i ds h e
      obtain ⟨a, us, rr, rfl, h1, h2, h3⟩ := h
      cases i with
      | zero => simp at e; subst e; exact ⟨_, rfl, ⟨a, us, rfl, h1, h2⟩, rfl⟩
      | succ i =>
        obtain ⟨u, q1, q2⟩ := ih (i := i) h3 (by simpa using e)
        exact ⟨u, by simpa using q1, q2⟩
  refine ⟨fun H1 O1 fp1 F i s hs => ?_, fun H1 O1 fp1 F => ?_⟩
  · have q1 := (LsA.fr F hl q).sq
    have l1 := FzL.fr F hl l
    rw [List.getElem?_map] at hs
    cases e : dss[i]? with
    | none => rw [e] at hs; cases hs
    | some d =>
      rw [e] at hs
      cases hs
      obtain ⟨v, g1, g2⟩ := gt l1 e
      refine ⟨⟨vs, v, q1, g1⟩, fun x H' ⟨e1, e2⟩ => ?_⟩
      subst e1
      have := e2 vs q1
      rw [g1] at this; cases this
      exact ⟨Same.refl _, g2⟩
  · exact ⟨vs, (LsA.fr F hl q).sq, by rw [List.length_map, l.length]; exact Nat.le_refl _⟩
theorem qi_seq {f : M R} (h : QE X e f) : QI X tg e (mItS f) := (pi_seq h).imp fun σ H Rr ⟨B, ρ, O, fp, its, ρ', R, hf, k⟩ => by
  obtain ⟨⟨x, ρ1⟩, h1, hf⟩ := bind_some hf
  refine ⟨B, ρ, O, fp, x, ρ1, R, h1, fun v H1 O1 fp1 R1 k1 F1 => ?_⟩
  dsimp only at hf
  split at hf
  · rename_i ds
    cases hf
    obtain ⟨f, ⟨⟨a, vs, e, q, l⟩, _⟩, _⟩ := k1
    exact ⟨a, e, .inr ⟨⟨vs, q⟩, k _ H1 O1 fp1 R1 F1 (walk_tup R1.lst q l)⟩⟩
  · rename_i ds
    cases hf
    obtain ⟨f, ⟨⟨a, vs, e, q, l⟩, _⟩, _⟩ := k1
    exact ⟨a, e, .inl ⟨⟨vs, q.sq⟩, k _ H1 O1 fp1 R1 F1 (walk_lst R1.lst (.inl q) l)⟩⟩
  · rename_i ds
    cases hf
    obtain ⟨f, ⟨a, vs, e, q, l, rfl⟩, nd, hfl⟩ := k1
    exact ⟨a, e, .inl ⟨⟨vs, SqL.of q⟩, k _ H1 O1 fp1 R1 F1 (walk_lst R1.lst (.inr ⟨q, (hfl a (by simp)).1⟩) l)⟩⟩
  · rename_i dss
    cases hf
    obtain ⟨f, ⟨⟨a, vs, e, q, l⟩, _⟩, _⟩ := k1
    exact ⟨a, e, .inl ⟨⟨vs, q.sq⟩, k _ H1 O1 fp1 R1 F1 (walk_lst2 R1.lst q l)⟩⟩
  · cases hf
structure Cal (P : Program) (w : World) (K : PySem.W.Frag) (mg : Str → Option Value) (base : Heap) (k : Nat) (x : Str) (n : Nat) (F : List Slot → Option Slot) : Prop where
  ex : ∃ f fd ps, FnOk P w K mg base CX0 k f fd ps (spF K n F) ∧ Binds K fd ps [] ∧ PySem.W.keepIn K (.ref f) = true ∧ mg x = some (.ref f)
theorem q_callC {k n : Nat} {x : Str} {p : Pos} {F : List Slot → Option Slot} {m : M (List R)} (C : Cal X.prog X.w X.K X.mg X.base k x n F) (hr : Room k X.A) (hg : Gl X x) (ha : QA X (e :: es) m)
    (hdb : (x == ("__debug__" : Str)) = false := by decide) (he : starEach (e :: es) X.env = (false, eval e X.env) :: starEach es X.env := by rfl) (hpl : (backTo pos (starEach es X.env)).any (·.1) = false := by rfl) :
    QE X (.Call (.Name x p) (e :: es) [] pos) (mOpF (ofLen n F) m) := by
  obtain ⟨f, fd, ps, G, hb, hk, hm⟩ := C.ex
  exact q_call G hr hg hm hk hb ha hdb he hpl
theorem Cal.imp {P : Program} {w : World} {mg : Str → Option Value} {base : Heap} {k n : Nat} {x : Str} {F F' : List Slot → Option Slot} (C : Cal P w K mg base k x n F) (h : ∀ ss s, F' ss = some s → F ss = some s) : Cal P w K mg base k x n F' := by
  obtain ⟨f, fd, ps, G, hb, hk, hm⟩ := C.ex
  exact ⟨f, fd, ps, G.imp fun vs H Q E ⟨ss, s, e, r, hF, g⟩ => ⟨ss, s, e, r, h ss s hF, g⟩, hb, hk, hm⟩
end
structure Names (mg : Str → Option Value) (K : PySem.W.Frag) : Prop where
  len : mg "len" = none
  range : mg "range" = none
  tuple : mg "tuple" = none
  list : mg "list" = none
  int : mg "int" = none
  sum : mg "sum" = none
  enumerate : mg "enumerate" = none
  isinstance : mg "isinstance" = none
  bool : mg "bool" = none
  reversed : mg "reversed" = none
  min : mg "min" = none
  max : mg "max" = none
  str : mg "str" = none
  sorted : mg "sorted" = none
  set : mg "set" = none
  kInt : Kit K "int"
  kBool : Kit K "bool"
  kTup : Kit K "tuple"
  kLst : Kit K "list"
  kStr : Kit K "str"
noncomputable def compB (scope : Scope) (outer : List (Str × NameKind)) (N : List Str) (ks : List Nat) : Bool :=
  scope.kind == .function && decide ((scope.names.map (·.1)).Nodup) &&
    scope.names.all (fun p => p.2 != .free || (outer.lookup p.1 == some .cell || outer.lookup p.1 == some .free)) &&
    (List.range N.length).all (fun i => ks.contains i || match N[i]? with
      | none => true
      | some x => !(scope.names.lookup x == some .local || scope.names.lookup x == some .cell))
theorem compOk_of {scope : Scope} {outer : List (Str × NameKind)} {N : List Str} {ks : List Nat} (h : compB scope outer N ks = true) : CompOk scope outer N ks := by
  simp only [compB, Bool.and_eq_true, decide_eq_true_eq] at h
  obtain ⟨⟨⟨h1, h2⟩, h3⟩, h4⟩ := h
  refine ⟨by simpa using h1, h2, fun x hx => ?_, fun i x hi hx => ?_⟩
  · have := List.all_eq_true.mp h3 _ hx
    simpa using this
  · have hlt : i < N.length := (List.getElem?_eq_some_iff.mp hi).1
    have := List.all_eq_true.mp h4 i (List.mem_range.mpr hlt)
    rw [hi] at this
    simp only [Bool.or_eq_true, Bool.not_eq_true', Bool.or_eq_false_iff] at this
    rcases this with z | ⟨z1, z2⟩
    · simpa using z
    · rcases hx with q | q
      · rw [q] at z1; simp at z1
      · rw [q] at z2; simp at z2
theorem kit_mk {K : PySem.W.Frag} {T : String} (h1 : PySem.W.kitOne K (.type "NoneType") (.type T) = some (isT "NoneType" T)) (h2 : PySem.W.kitOne K (.type "bool") (.type T) = some (isT "bool" T)) (h3 : PySem.W.kitOne K (.type "int") (.type T) = some (isT "int" T))
    (h4 : PySem.W.kitOne K (.type "str") (.type T) = some (isT "str" T)) (h5 : PySem.W.kitOne K (.type "tuple") (.type T) = some (isT "tuple" T)) (h6 : PySem.W.kitOne K (.type "list") (.type T) = some (isT "list" T)) : Kit K T :=
  ⟨fun t ht => by
    simp only [List.mem_cons, List.not_mem_nil, or_false] at ht
    rcases ht with rfl | rfl | rfl | rfl | rfl | rfl
    · exact h1
    · exact h2
    · exact h3
    · exact h4
    · exact h5
    · exact h6⟩
theorem kit_int (K : PySem.W.Frag) : Kit K "int" := kit_mk (by kernel_rfl) (by kernel_rfl) (by kernel_rfl) (by kernel_rfl) (by kernel_rfl) (by kernel_rfl)
theorem kit_bool (K : PySem.W.Frag) : Kit K "bool" := kit_mk (by kernel_rfl) (by kernel_rfl) (by kernel_rfl) (by kernel_rfl) (by kernel_rfl) (by kernel_rfl)
theorem kit_tup (K : PySem.W.Frag) : Kit K "tuple" := kit_mk (by kernel_rfl) (by kernel_rfl) (by kernel_rfl) (by kernel_rfl) (by kernel_rfl) (by kernel_rfl)
theorem kit_lst (K : PySem.W.Frag) : Kit K "list" := kit_mk (by kernel_rfl) (by kernel_rfl) (by kernel_rfl) (by kernel_rfl) (by kernel_rfl) (by kernel_rfl)
theorem kit_str (K : PySem.W.Frag) : Kit K "str" := kit_mk (by kernel_rfl) (by kernel_rfl) (by kernel_rfl) (by kernel_rfl) (by kernel_rfl) (by kernel_rfl)
theorem Names.mk' {mg : Str → Option Value} {K : PySem.W.Frag} (h1 : mg "len" = none) (h2 : mg "range" = none) (h3 : mg "tuple" = none) (h4 : mg "list" = none) (h5 : mg "int" = none) (h6 : mg "sum" = none) (h7 : mg "enumerate" = none) (h8 : mg "isinstance" = none) (h9 : mg "bool" = none)
    (h10 : mg "reversed" = none) (h11 : mg "min" = none) (h12 : mg "max" = none) (h13 : mg "str" = none) (h14 : mg "sorted" = none) (h15 : mg "set" = none) : Names mg K := ⟨h1, h2, h3, h4, h5, h6, h7, h8, h9, h10, h11, h12, h13, h14, h15, kit_int K, kit_bool K, kit_tup K, kit_lst K, kit_str K⟩
theorem sp_law {K : PySem.W.Frag} {F : List Slot → Option Slot} (h : ∀ ns : List Int, ns.length ≤ 63 → F [.fz (ns.map D.int)] = some (.val (.bl true))) (H : Hp) (a : Addr) (ns : List Int) (hl : ns.length ≤ 63) (hS : SqL K H a (ns.map V.int)) :
    spF K 1 F [.ref a] H (fun v _ => v = .bl true) (fun _ _ _ => False) := by
  refine ⟨[.fz (ns.map D.int)], .val (.bl true), rfl, ⟨.ref a, [], rfl, ⟨⟨a, ns.map V.int, rfl, ?_, IsL.ofInts ns⟩, rfl⟩, rfl⟩, h ns hl, fun v H' _ q => q⟩
  rcases hS with (q | ⟨o, q⟩) | q
  · exact .inl ⟨q, fun z => z⟩
  · exact .inr (.inl ⟨o, q⟩)
  · exact .inr (.inr q)
end Mi
namespace Mi
open PySem L2
theorem forL_ex {tg : MG} {body : MS} (P : Nat → En → Prop) : ∀ {its : List Slot} {ρ : En} (n : Nat), P n ρ → (∀ i s ρ, its[i]? = some s → P (n + i) ρ → ∃ ρ1 ρ2, tg s ρ = some ρ1 ∧ body ρ1 = some (.nx ρ2) ∧ P (n + i + 1) ρ2) →
    ∃ ρ', forL tg body its ρ = some (.nx ρ') ∧ P (n + its.length) ρ' := by
  intro its
  induction its with
  | nil => intro ρ n h _; exact ⟨ρ, rfl, h⟩
  | cons s r ih =>
    intro ρ n h step
    obtain ⟨ρ1, ρ2, h1, h2, h3⟩ := step 0 s ρ rfl h
    obtain ⟨ρ', e, q⟩ := ih (ρ := ρ2) (n + 1) h3 fun i t ρ hi hp => by
      have hp' : P (n + (i + 1)) ρ := by rw [show n + (i + 1) = n + 1 + i by omega]; exact hp
      obtain ⟨ρ3, ρ4, g1, g2, g3⟩ := step (i + 1) t ρ (by simpa using hi) hp'
      exact ⟨ρ3, ρ4, g1, g2, by rw [show n + 1 + i + 1 = n + (i + 1) + 1 by omega]; exact g3⟩
    refine ⟨ρ', ?_, by rw [List.length_cons, show n + (r.length + 1) = n + 1 + r.length by omega]; exact q⟩
    show ((tg s ρ).bind fun ρ1 => (body ρ1).bind _) = _
    rw [h1]
    show ((body ρ1).bind _) = _
    rw [h2]
    exact e
theorem while_ex {c : M Bool} {body : MS} (P : Nat → En → Prop) : ∀ (n : Nat) {ρ : En} (k : Nat), P k ρ → k < n → (∀ k ρ, P k ρ → (∃ ρ1, c ρ = some (decide (0 < k), ρ1) ∧ (k = 0 → P 0 ρ1) ∧ (0 < k → ∃ ρ2, body ρ1 = some (.nx ρ2) ∧ P (k - 1) ρ2))) →
    ∃ ρ', sWhile c body n ρ = some (.nx ρ') ∧ P 0 ρ' := by
  intro n
  induction n with
  | zero => intro ρ k _ h; omega
  | succ n ih =>
    intro ρ k hp hk step
    obtain ⟨ρ1, h1, h2, h3⟩ := step k ρ hp
    unfold sWhile
    rw [h1]
    by_cases hz : 0 < k
    · obtain ⟨ρ2, g1, g2⟩ := h3 hz
      obtain ⟨ρ', e, q⟩ := ih (ρ := ρ2) (k - 1) g2 (by omega) step
      refine ⟨ρ', ?_, q⟩
      simp only [Option.bind_some, decide_eq_true hz, if_true, g1]
      exact e
    · refine ⟨ρ1, ?_, h2 (by omega)⟩
      simp [hz]
theorem compL_setN {k : Nat} {elt : M R} (val : Slot → D) : ∀ {its : List Slot} {ρ : En}, k < ρ.length → (∀ s ∈ its, elt (ρ.set k (some s)) = some (.of (.val (val s)), ρ.set k (some s))) →
    ∃ ρe, compL (setN k) mYes elt its ρ = some (its.map val, ρe) ∧ (ρe = ρ ∨ ∃ s ∈ its, ρe = ρ.set k (some s)) := by
  intro its
  induction its with
  | nil => intro ρ _ _; exact ⟨ρ, rfl, .inl rfl⟩
  | cons s r ih =>
    intro ρ hk h
    have hs := h s (by simp)
    obtain ⟨ρe, e, q⟩ := ih (ρ := ρ.set k (some s)) (by simpa using hk) fun t ht => by
      rw [List.set_set]; exact h t (by simp [ht])
    refine ⟨ρe, ?_, ?_⟩
    · have e0 : setN k s ρ = some (ρ.set k (some s)) := if_pos hk
      simp only [compL, e0, mYes, Option.bind_some, if_true, hs]
      rw [e]
      rfl
    · rcases q with q | ⟨t, ht, q⟩
      · exact .inr ⟨s, by simp, q⟩
      · exact .inr ⟨t, by simp [ht], by rw [q, List.set_set]⟩
noncomputable def notOwn : Slot → Bool
  | .own _ => false
  | .own2 _ => false
  | _ => true
theorem mComp_setN {k : Nat} {it : M (List Slot)} {elt : M R} {ρ0 ρ2 : En} {its : List Slot} (val : Slot → D) (h1 : it ρ0 = some (its, ρ2)) (hk : k < ρ2.length) (hp : plainAt ρ2 k = true) (hz : its.length < big) (hn : ∀ s ∈ its, notOwn s = true)
    (h : ∀ s ∈ its, elt (ρ2.set k (some s)) = some (.of (.val (val s)), ρ2.set k (some s))) : mComp [k] (setN k) it mYes elt ρ0 = some (.of (.own (its.map val)), ρ2) := by
  obtain ⟨ρe, e, q⟩ := compL_setN (k := k) (elt := elt) val (its := its) (ρ := ρ2.set k none) (by simpa using hk) fun s hs => by rw [List.set_set]; exact h s hs
  have hre : ρe.set k (ρ2[k]?).join = ρ2 := by
    have e1 : (ρ2[k]?).join = ρ2[k] := by rw [List.getElem?_eq_getElem hk]; rfl
    rw [e1]
    rcases q with q | ⟨s, _, q⟩
    · rw [q, List.set_set, List.set_getElem_self]
    · rw [q, List.set_set, List.set_set, List.set_getElem_self]
  have hno : noOwn ρe k = true := by
    unfold noOwn
    rcases q with q | ⟨s, hs, q⟩
    · rw [q, List.getElem?_set_self (by simpa using hk)]
      rfl
    · rw [q, List.getElem?_set_self (by simpa using hk)]
      have := hn s hs
      cases s <;> first | rfl | cases this
  unfold mComp
  rw [h1]
  show (if its.length < big ∧ [k].all (plainAt ρ2) = true then (compL (setN k) mYes elt its (maskE [k] ρ2)).bind _ else none) = _
  rw [if_pos ⟨hz, by simp [hp]⟩]
  show ((compL (setN k) mYes elt its (ρ2.set k none)).bind _) = _
  rw [e]
  show (if [k].all (noOwn ρe) = true then some (R.of (.own (its.map val)), unmask [k] ρ2 ρe) else none) = _
  rw [if_pos (by simp [hno])]
  show some (R.of (.own (its.map val)), ρe.set k (ρ2[k]?).join) = _
  rw [hre]
theorem rangeD_mem {lo : Int} {n : Nat} {s : Slot} (h : s ∈ rangeD lo n) : ∃ i : Nat, i < n ∧ s = .val (.int (lo + i)) := by
  unfold rangeD at h
  obtain ⟨i, hi, e⟩ := List.mem_map.mp h
  exact ⟨i, List.mem_range.mp hi, e.symm⟩
theorem rangeD_len {lo : Int} {n : Nat} : (rangeD lo n).length = n := by unfold rangeD; simp
theorem rangeD_get {lo : Int} {n i : Nat} {s : Slot} (h : (rangeD lo n)[i]? = some s) : i < n ∧ s = .val (.int (lo + i)) := by
  unfold rangeD at h
  rw [List.getElem?_map] at h
  cases q : (List.range n)[i]? with
  | none => rw [q] at h; cases h
  | some j =>
    rw [q] at h
    obtain ⟨h1, h2⟩ := List.getElem?_eq_some_iff.mp q
    rw [List.getElem_range] at h2
    subst h2
    rw [List.length_range] at h1
    cases h
    exact ⟨h1, rfl⟩
noncomputable def cell (ns : List Int) (k : Nat) : Int := ns.getD k 0
theorem atI_ints {ns : List Int} {k : Nat} (h : k < ns.length) : atI (ns.map D.int) (k : Int) = some (.int (ns.getD k 0)) := by
  refine atI_nat ?_
  rw [List.getElem?_map, List.getElem?_eq_getElem h, List.getD_eq_getElem?_getD, List.getElem?_eq_getElem h]
  rfl
end Mi
namespace Mi
open PySem L2
open PySem.Spec
variable {K : PySem.W.Frag} {H H' : Hp} {O O' : Addr → Prop} {fp fp' : Nat → List Addr} {B : Hp} {ρ ρ' : En} {σ : L2.St}
noncomputable def many3 (lo hi c : Int) : Nat := ((hi - lo + c - 1) / c).toNat
noncomputable def rangeD3 (lo c : Int) (n : Nat) : List Slot := (List.range n).map fun (i : Nat) => .val (.int (lo + i * c))
noncomputable def mRng3 (f : M (List R)) : M (List Slot) := fun ρ => (f ρ).bind fun x => (drs x.2 x.1).bind fun ss => match ss with
  | [.val (.int i), .val (.int j), .val (.int c)] => if -(2 ^ 60) ≤ i ∧ i < 2 ^ 60 ∧ -(2 ^ 60) ≤ j ∧ j < 2 ^ 60 ∧ 0 < c ∧ c < 2 ^ 30 then some (rangeD3 i c (many3 i j c), x.2) else none
  | _ => none
section
variable {X : Cx} {e a b c tg : Expr} {es : List Expr} {pos p p2 : Pos}
noncomputable def cutD (ds : List D) (lo hi : Option Int) : List D := (ds.drop (HT.sIx ds.length 0 lo)).take (HT.sIx ds.length ds.length hi - HT.sIx ds.length 0 lo)
theorem cut_is {ds : List D} {vs : List V} {lo hi : Option Int} (l : IsL K H ds vs) : IsL K H (cutD ds lo hi) (cutV vs lo hi) := by
  unfold cutD cutV
  rw [l.length]
  exact (l.drop _).take _
theorem getItem_tuple_all {prog : Program} {w : World} {A : Around} {E : Value → Shared → Prop} {s : Shared} {t sl : Addr} {items : Array Value} {vl vu : Value} {lo hi : Option Int} {Q : Value → Shared → Prop} (ht : PyProof.Rows.IsTup s.heap t items) (hs : s.heap.IsSliceOf sl vl vu .none) (pl : IsPart vl lo) (pu : IsPart vu hi)
    (hw : HT.sIx items.size 0 lo = 0 ∧ HT.sIx items.size items.size hi = items.size) (h : Q (.ref t) s) : wpAny (model prog w) A (getItem (.ref t) (.ref sl)) Q E s := by
  obtain ⟨os, hos, hcs, hds⟩ := id hs
  have hTs : s.TypeIs (.ref sl) "slice" := ⟨os, hos, hcs⟩
  unfold getItem
  try with_reducible refine wpAny_holding ?_
  first | refine wpAny_bind (wpAny_pure ?_) | skip
  refine wpAny_bind (wpAny_sequenceKey ht.typeIs (by decide) ?_)
  refine wpAny_bind (wpAny_callSpecial?_slot (name := Str.ofString "__getitem__") ht.typeIs PyProof.Rows.slot_tuple_getitem
    (wpAny_call_entry PyProof.Rows.slot_tuple_getitem ht.typeIs PyProof.Rows.entry_tuple_getitem ?_ (PyProof.Rows.args_tuple_getitem _ _)))
  show wpAny _ _ (Builtin.Tuple.tupleItemsOf (.ref t) >>= _) _ _ s
  refine wpAny_bind (PyProof.Rows.tupleItemsOf_ ht ?_)
  refine wpAny_bind (wpAny_typeOf hTs ?_)
  rw [if_pos (by decide)]
  refine wpAny_bind (HT.sliceApplied_gen hs pl pu ?_)
  show wpAny _ _ (if (((HT.sIx items.size 0 lo : Nat) : Int) == 0 && (1 : Int) == 1 && (HT.sIx items.size items.size hi - HT.sIx items.size 0 lo) == items.size) = true then _ else _) _ _ s
  rw [hw.1, hw.2, if_pos (by simp)]
  refine wpAny_bind (m := Builtin.Tuple.tupleIsExact (.ref t)) ?_
  unfold Builtin.Tuple.tupleIsExact
  refine wpAny_bind (wpAny_typeOf ht.typeIs (wpAny_pure ?_))
  show wpAny _ _ (if (Value.type "tuple" == Value.type "tuple") = true then _ else _) _ _ s
  rw [if_pos (by decide)]
  exact wpAny_bind (wpAny_rule (wpAny_pure ⟨_, rfl, wpAny_pure h⟩))
noncomputable def rSlT2 (K : PySem.W.Frag) : V → Option Int → Option Int → Hp → VK → Prop := fun x lo hi H Q => ∃ a xs, x = .ref a ∧ SqT K H a xs ∧ ((HT.sIx xs.length 0 lo = 0 ∧ HT.sIx xs.length xs.length hi = xs.length) → Q (.ref a) H) ∧
  (¬ (HT.sIx xs.length 0 lo = 0 ∧ HT.sIx xs.length xs.length hi = xs.length) → ∀ p, H p = none → Q (.ref p) (upd H p (.tup (cutV xs lo hi))))
theorem sl_tup2 : SlR X (rSlT2 X.K) := by
  intro pins s σ H x v vl vu lo hi sl Q I rx hs pl pu h
  obtain ⟨a, xs, rfl, hx, h1, h2⟩ := h
  by_cases hw : HT.sIx xs.length 0 lo = 0 ∧ HT.sIx xs.length xs.length hi = xs.length
  · cases rx
    obtain ⟨its, r, ht, hz⟩ := I.tuple hx
    have hlen : its.toArray.size = xs.length := by rw [List.size_toArray]; exact r.length.symm
    exact ⟨"tuple", _, PyProof.Rows.slot_tuple_getitem.lookup, ht.typeIs, getItem_tuple_all ht hs pl pu (by rw [hlen]; exact hw) ⟨.ref a, H, I, rfl, h1 hw⟩⟩
  · exact sl_tup pins s σ H (.ref a) v vl vu lo hi sl Q I rx hs pl pu ⟨a, xs, rfl, hx, hw, h2 hw⟩
theorem cut_whole {ds : List D} {lo hi : Option Int} (h : HT.sIx ds.length 0 lo = 0 ∧ HT.sIx ds.length ds.length hi = ds.length) : cutD ds lo hi = ds := by
  unfold cutD
  rw [h.1, h.2]
  simp
noncomputable def mNoP : M (Option Int) := fun ρ => some (none, ρ)
noncomputable def mPt (f : M R) : M (Option Int) := fun ρ => (f ρ).bind fun x => match x.1 with
  | .of (.val (.int i)) => some (some i, x.2)
  | _ => none
noncomputable def gSl (lo hi : Option Int) : Slot → Option Slot
  | .val (.tup ds) => some (.val (.tup (cutD ds lo hi)))
  | .fz ds => some (.own (cutD ds lo hi))
  | _ => none
noncomputable def mSl (f : M R) (l u : M (Option Int)) : M R := fun ρ => (f ρ).bind fun x => (l x.2).bind fun y => (u y.2).bind fun z => (dr z.2 x.1).bind fun s => (gSl y.1 z.1 (rdS s)).bind fun t => some (.of t, z.2)
noncomputable def tQO (K : PySem.W.Frag) (l : M (Option Int)) : TO := fun σ H Q => ∃ B ρ O fp o ρ', Rel K B ρ σ H O fp ∧ l ρ = some (o, ρ') ∧ ∀ H' O' fp', Rel K B ρ' σ H' O' fp' → Fr H O fp H' O' fp' → Q o H'
noncomputable abbrev QO (X : Cx) (e : Option Expr) (l : M (Option Int)) : Prop := PO X e (tQO X.K l)
theorem PO.imp {e : Option Expr} {t t' : TO} (h : PO X e t) (w : ∀ σ H Q, t' σ H Q → t σ H Q) : PO X e t' := fun pins s σ H Q I q => h pins s σ H Q I (w σ H Q q)
theorem qo_none : QO X none mNoP := PO.imp po_none fun σ H Q ⟨B, ρ, O, fp, o, ρ', R, hf, k⟩ => by
  cases hf
  exact k H O fp R Fr.refl
theorem qo_some {f : M R} (h : QE X e f) : QO X (some e) (mPt f) := PO.imp (po_some h) fun σ H Q ⟨B, ρ, O, fp, o, ρ', R, hf, k⟩ => by
  obtain ⟨⟨x, ρ1⟩, h1, hf⟩ := bind_some hf
  dsimp only at hf
  split at hf
  · rename_i i
    cases hf
    refine ⟨B, ρ, O, fp, _, _, R, h1, fun v H' O' fp' R' k' F' => ?_⟩
    obtain ⟨f, ⟨hs, _⟩, _⟩ := k'
    exact ⟨i, hs, k H' O' fp' R' F'⟩
  · cases hf
theorem q_slice {lo hi : Option Expr} {f : M R} {l u : M (Option Int)} (ha : QE X e f) (hl : QO X lo l) (hu : QO X hi u) : QE X (.Subscript e (.Slice lo hi none p2) pos) (mSl f l u) :=
  (pe_slice (sl_tup2.or sl_list) ha hl hu).imp fun σ H Q ⟨B, ρ, O, fp, r, ρ', R, hf, k⟩ => by
    obtain ⟨⟨x, ρ1⟩, h1, hf⟩ := bind_some hf
    obtain ⟨⟨vl, ρ2⟩, h2, hf⟩ := bind_some hf
    obtain ⟨⟨vh, ρ3⟩, h3, hf⟩ := bind_some hf
    · obtain ⟨s, g3, hf⟩ := bind_some hf
      obtain ⟨t, g4, hf⟩ := bind_some hf
      cases hf
      refine ⟨B, ρ, O, fp, x, ρ1, R, h1, fun v H1 O1 fp1 R1 k1 F1 => ?_⟩
      refine ⟨B, ρ1, O1, fp1, vl, ρ2, R1, h2, fun H2 O2 fp2 R2 F2 => ?_⟩
      refine ⟨B, ρ2, O2, fp2, vh, ρ3, R2, h3, fun H3 O3 fp3 R3 F3 => ?_⟩
      have F13 := F2.trans F3
      obtain ⟨ff, hs⟩ := R3.dr (k1.fr F13 R1.lst) g3
      have hr := hs.rd
      have F := F1.trans F13
      generalize rdS s = s' at g4 hr
      unfold gSl at g4
      split at g4
      · rename_i ds
        cases g4
        have gd := R3.good (s := .val (.tup (cutD ds vl vh))) (Q := Q) (fun v' H' O' R' k' F' => k v' H' O' fp3 R' (k'.back F.fl) (F.trans F')) trivial
        obtain ⟨⟨a, ws, rfl, q, l⟩, _⟩ := hr
        refine .inl ⟨a, ws, rfl, q, fun hw => ?_, fun hw p hp => ?_⟩
        · rw [l.length] at hw
          rw [cut_whole hw] at gd
          exact gd _ _ (Same.refl _) ⟨a, ws, rfl, q, l⟩
        · have e := same_new hp (.tup (cutV ws vl vh))
          exact gd _ _ e ⟨p, _, rfl, SqT.of upd_same, (cut_is l).tk (Tk.same e)⟩
      · rename_i ds
        cases g4
        have gd := R3.good (s := .own (cutD ds vl vh)) (Q := Q) (fun v' H' O' R' k' F' => k v' H' O' fp3 R' (k'.back F.fl) (F.trans F')) trivial
        obtain ⟨⟨a, ws, rfl, q, l⟩, _⟩ := hr
        refine .inr ⟨a, ws, rfl, q.sq, fun p hp => ?_⟩
        have e := same_new hp (.lst (cutV ws vl vh))
        exact gd p _ _ e hp upd_same ((cut_is l).tk (Tk.same e))
      · cases g4
noncomputable def gCat : List Slot → Option Slot := fun ss => match ss with
  | [.val (.tup xs), .val (.tup ys)] => if xs ≠ [] ∧ xs.length + ys.length < big then some (.val (.tup (xs ++ ys))) else none
  | _ => none
variable {f g : M R}
noncomputable def gExtend : List D → List Slot → Option (D × List D) := fun ds ss => match ss with
  | [.val (.tup es)] => if ds.length + es.length < big then some (.non, ds ++ es) else none
  | [.fz es] => if ds.length + es.length < big then some (.non, ds ++ es) else none
  | _ => none
noncomputable def sNever : MS := fun _ => none
theorem qs_never {st : Stmt} : QS X st sNever := ps_never.imp fun D σ H ⟨B, ρ, O, fp, o, R, hg, k⟩ => by cases hg
end
end Mi
namespace Mi
open PySem L2
open PySem.Spec
variable {K : PySem.W.Frag} {H H' : Hp} {O O' : Addr → Prop} {fp fp' : Nat → List Addr} {B : Hp} {ρ ρ' : En} {σ : L2.St}
noncomputable def OwA (K : PySem.W.Frag) (H : Hp) (O : Addr → Prop) (fp : Nat → List Addr) (O₂ : Addr → Prop) (fp₂ : Nat → List Addr) (acc : Addr) (dn : List (List D)) (vs : List V) : Prop :=
  ∃ qs, vs = qs.map .ref ∧ OwL K H dn qs ∧ (acc :: qs).Nodup ∧ (∀ a ∈ qs, fl O fp a) ∧ ∀ a ∈ qs, ¬ fl O₂ fp₂ a
theorem OwL.length : ∀ {dss : List (List D)} {qs : List Addr}, OwL K H dss qs → qs.length = dss.length
  | [], _, h => by have h' : _ = [] := h; subst h'; rfl
  | ds :: dss, qs, h => by
    obtain ⟨q, us, r, rfl, _, _, l⟩ := h
    rw [List.length_cons, List.length_cons, OwL.length l]
theorem OwL.append : ∀ {dss : List (List D)} {qs : List Addr} {ess : List (List D)} {rs : List Addr}, OwL K H dss qs → OwL K H ess rs → OwL K H (dss ++ ess) (qs ++ rs)
  | [], _, _, _, h, q => by have h' : _ = [] := h; subst h'; exact q
  | ds :: dss, qs, _, _, h, q => by
    obtain ⟨p, us, r, rfl, h1, h2, h3⟩ := h
    exact ⟨p, us, _, rfl, h1, h2, OwL.append h3 q⟩
section
variable {O₂ : Addr → Prop} {fp₂ : Nat → List Addr} {acc : Addr} {dn : List (List D)} {vs : List V}
theorem OwA.nil : OwA K H O fp O₂ fp₂ acc [] [] := ⟨[], rfl, rfl, by simp, fun _ z => by simp at z, fun _ z => by simp at z⟩
theorem OwA.length (h : OwA K H O fp O₂ fp₂ acc dn vs) : vs.length = dn.length := by
  obtain ⟨qs, rfl, hw, _⟩ := h
  rw [List.length_map, hw.length]
theorem OwA.fr (h : OwA K H O fp O₂ fp₂ acc dn vs) (F : Fr H O fp H' O' fp') (l : ∀ b, O b → ∃ vs, H b = some (.lst vs)) : OwA K H' O' fp' O₂ fp₂ acc dn vs := by
  obtain ⟨qs, rfl, hw, nd, h1, h2⟩ := h
  exact ⟨qs, rfl, hw.eq (F.tk l) fun a ha => (F.flt a (h1 a ha).1 (h1 a ha).2).1, nd, fun a ha => F.fl a (h1 a ha), h2⟩
theorem OwA.push (h : OwA K H O fp O₂ fp₂ acc dn vs) {p : Addr} {us : List V} {ds : List D} (ha : H acc = some (.lst vs)) (hp : H p = some (.lst us)) (hu : IsL K H ds us) (hfa : fl O fp acc) (hfp : fl O fp p) (hne : ¬ (p = acc ∨ V.ref p ∈ vs)) (hz : ¬ fl O₂ fp₂ p) :
    OwA K (L2.upd H acc (.lst (vs ++ [.ref p]))) O fp O₂ fp₂ acc (dn ++ [ds]) (vs ++ [.ref p]) := by
  obtain ⟨qs, rfl, hw, nd, h1, h2⟩ := h
  have hpa : p ≠ acc := fun z => hne (.inl z)
  have hpq : p ∉ qs := fun z => hne (.inr (List.mem_map.mpr ⟨p, z, rfl⟩))
  have t := tk_upd (us := qs.map V.ref ++ [.ref p]) ha
  rw [List.nodup_cons] at nd
  refine ⟨qs ++ [p], by simp, OwL.append (hw.eq t fun a haq => upd_ne (fun z => nd.1 (z ▸ haq))) ⟨p, us, [], rfl, by rw [upd_ne hpa]; exact hp, hu.tk t, rfl⟩, ?_, fun a haq => ?_, fun a haq => ?_⟩
  · rw [List.nodup_cons, List.nodup_append]
    refine ⟨fun z => ?_, nd.2, by simp, fun a ha b hb e => ?_⟩
    · rcases List.mem_append.mp z with z | z
      · exact nd.1 z
      · have z' : acc = p := by simpa using z
        exact hpa z'.symm
    · have : b = p := by simpa using hb
      exact hpq (this ▸ e ▸ ha)
  · rcases List.mem_append.mp haq with z | z
    · exact h1 a z
    · have : a = p := by simpa using z
      rw [this]; exact hfp
  · rcases List.mem_append.mp haq with z | z
    · exact h2 a z
    · have : a = p := by simpa using z
      rw [this]; exact hz
end
end Mi
namespace Mi
open PySem L2
open PySem.Spec
variable {K : PySem.W.Frag} {H H' : Hp} {O O' : Addr → Prop} {fp fp' : Nat → List Addr} {B : Hp} {ρ ρ' : En} {σ : L2.St}
theorem OwL.upd (t : ∀ us, Tk H (L2.upd H q (.lst us))) {us' : List V} {ds' : List D} (hu : IsL K (L2.upd H q (.lst us')) ds' us') : ∀ {dss : List (List D)} {qs : List Addr} {j : Nat}, OwL K H dss qs → qs.Nodup → qs[j]? = some q → OwL K (L2.upd H q (.lst us')) (dss.set j ds') qs
  | [], qs, j, h, _, e => by have h' : _ = [] := h; subst h'; simp at e
  | ds :: dss, qs, 0, h, nd, e => by
    obtain ⟨p, us, r, rfl, h1, h2, h3⟩ := h
    have e' : p = q := by simpa using e
    subst e'
    rw [List.nodup_cons] at nd
    exact ⟨p, us', r, rfl, upd_same, hu, h3.eq (t us') fun a ha => upd_ne fun z => nd.1 (z ▸ ha)⟩
  | ds :: dss, qs, j + 1, h, nd, e => by
    obtain ⟨p, us, r, rfl, h1, h2, h3⟩ := h
    rw [List.nodup_cons] at nd
    have hq : r[j]? = some q := by simpa using e
    have hm : q ∈ r := List.mem_of_getElem? hq
    have hne : p ≠ q := fun z => nd.1 (z ▸ hm)
    exact ⟨p, us, r, rfl, by rw [upd_ne hne]; exact h1, h2.tk (t us'), OwL.upd t hu h3 nd.2 hq⟩
theorem OwL.get : ∀ {dss : List (List D)} {qs : List Addr} {j : Nat} {ds : List D}, OwL K H dss qs → dss[j]? = some ds → ∃ q us, qs[j]? = some q ∧ H q = some (.lst us) ∧ IsL K H ds us
  | [], _, _, _, _, e => by simp at e
  | d :: dss, qs, 0, ds, h, e => by
    obtain ⟨p, us, r, rfl, h1, h2, h3⟩ := h
    simp at e; subst e
    exact ⟨p, us, rfl, h1, h2⟩
  | d :: dss, qs, j + 1, ds, h, e => by
    obtain ⟨p, us, r, rfl, h1, h2, h3⟩ := h
    obtain ⟨q, us', g1, g2, g3⟩ := OwL.get (j := j) h3 (by simpa using e)
    exact ⟨q, us', by simpa using g1, g2, g3⟩
end Mi
namespace Mi
open PySem L2
open PySem.Spec
section
variable {X : Cx} {K : PySem.W.Frag}
noncomputable def rInsert : V → List V → Hp → VK → Prop := fun x vs H Q => ∃ l xs i y, x = .ref l ∧ vs = [.int i, y] ∧ H l = some (.lst xs) ∧ 0 ≤ i ∧ i < 2 ^ 62 ∧ xs.length < sizeLine ∧ Q .non (upd H l (.lst (xs.take i.toNat ++ y :: xs.drop i.toNat)))
theorem ins_eq (its : List Value) (u : Value) (i : Int) (h0 : 0 ≤ i) : (have k := if i < 0 then (i + ((its.toArray.size : Nat) : Int)).toNat else min i.toNat its.toArray.size; (its.toArray.extract 0 k).push u ++ its.toArray.extract k) = (its.take i.toNat ++ u :: its.drop i.toNat).toArray := by
  rw [if_neg (by omega)]
  show (its.toArray.extract 0 (min i.toNat its.toArray.size)).push u ++ its.toArray.extract (min i.toNat its.toArray.size) = _
  rw [List.size_toArray]
  apply Array.toList_inj.mp
  by_cases h : i.toNat ≤ its.length
  · rw [Nat.min_eq_left h]
    simp
    exact List.take_of_length_le (by simp)
  · rw [Nat.min_eq_right (by omega)]
    simp
    rw [List.take_of_length_le (by omega), List.drop_of_length_le (by omega)]
theorem Vals.ins {xs : List V} {us : List Value} {x : V} {u : Value} (r : Vals xs us) (h : RelV x u) (k : Nat) : Vals (xs.take k ++ x :: xs.drop k) (us.take k ++ u :: us.drop k) := (r.take k).append (.cons h (r.drop k))
theorem mt_insert : MtM X "list.insert" rInsert := by
  intro pins s σ H x vs v us Q I rx rv h
  obtain ⟨l, xs, i, y, rfl, rfl, hH, h0, h1, hz, q⟩ := h
  cases rx
  obtain ⟨w1, u, rfl, ⟨t, rfl⟩, ru⟩ := rv.two
  obtain ⟨z, its, n, r, hl, e⟩ := I.lstM hH
  refine call_meets F.slot_list_insert ⟨_, e, rfl⟩ F.entry_list_insert (F.args_list_insert_3 _ _ _)
    (AutoListH.list_insert_list_int_val_1 l its.toArray n i t u (by rw [fitsIndex_both (by omega) (by omega)]; decide) (by rw [List.size_toArray]; omega)) ⟨e, ?_⟩
  refine ⟨.non, _, I.lset (its' := its.take i.toNat ++ u :: its.drop i.toNat) hH e (ins_eq its u i h0) (Vals.ins r ru _) ?_, rfl, q⟩
  rw [List.length_append, List.length_cons, List.length_take, List.length_drop]
  omega
noncomputable def gInsert : List D → List Slot → Option (D × List D) := fun ds ss => match ss with
  | [.val (.int i), .val d] => if 0 ≤ i ∧ i < 2 ^ 62 ∧ ds.length < big then some (.non, ds.take i.toNat ++ d :: ds.drop i.toNat) else none
  | _ => none
theorem mr_insert : MR' K gInsert rInsert := fun H p vs ds ss xs d ds' Q hp hl hr hg k => by
  unfold gInsert at hg
  split at hg
  · rename_i i y
    obtain ⟨u, v, rfl, h1, h2⟩ := rd2 hr
    have h1 : u = .int i := h1
    subst h1
    split at hg
    · rename_i hz
      cases hg
      exact ⟨p, vs, i, v, rfl, rfl, hp, hz.1, hz.2.1, by rw [hl.length]; exact big_line hz.2.2, k .non _ ((hl.take _).append (.cons h2 (hl.drop _))) fun _ => rfl⟩
    · cases hg
  · cases hg
end
end Mi
namespace Mi
open PySem PySem.Spec
section
variable {prog : Program} {w : World} {A : Around} {E : Value → Shared → Prop} {s : Shared}
noncomputable def IsRev (h : Heap) (a t : Addr) (i : Int) : Prop := ∃ o, h.get? a = some o ∧ o.cls = .type "reversed" ∧ o.data = .fields #[.ref t, rawInt i]
theorem IsRev.typeIs {a t : Addr} {i : Int} (x : IsRev s.heap a t i) : s.TypeIs (.ref a) "reversed" := let ⟨o, ho, hc, _⟩ := x; ⟨o, ho, hc⟩
theorem IsRev.at {h h' : Heap} {a t : Addr} {i : Int} (x : IsRev h a t i) (e : ∀ o, h.get? a = some o → h'.get? a = some o) : IsRev h' a t i := let ⟨o, ho, r⟩ := x; ⟨o, e _ ho, r⟩
end
end Mi
namespace Mi
open PySem L2
open PySem.Spec
variable {K : PySem.W.Frag} {H H' : Hp} {O O' : Addr → Prop} {fp fp' : Nat → List Addr} {B : Hp} {ρ ρ' : En} {σ : L2.St}
noncomputable def lowN : List Int → Int
  | [] => 0
  | n :: r => r.foldl (fun a b => if b < a then b else a) n
noncomputable def topN : List Int → Int
  | [] => 0
  | n :: r => r.foldl (fun a b => if a < b then b else a) n
theorem fold_low : ∀ (r : List Int) (n : Int), (r.foldl (fun a b => if b < a then b else a) n ∈ n :: r) ∧ ∀ a ∈ n :: r, r.foldl (fun a b => if b < a then b else a) n ≤ a
  | [], n => by simp
  | m :: r, n => by
    rw [List.foldl_cons]
    by_cases h : m < n
    · rw [if_pos h]
      obtain ⟨h1, h2⟩ := fold_low r m
      refine ⟨List.mem_cons_of_mem _ h1, fun a ha => ?_⟩
      rcases List.mem_cons.mp ha with rfl | ha
      · have := h2 m (by simp); omega
      · exact h2 a ha
    · rw [if_neg h]
      obtain ⟨h1, h2⟩ := fold_low r n
      refine ⟨?_, fun a ha => ?_⟩
      · rcases List.mem_cons.mp h1 with h1 | h1
        · rw [h1]; simp
        · simp [h1]
      · rcases List.mem_cons.mp ha with rfl | ha
        · exact h2 a (by simp)
        · rcases List.mem_cons.mp ha with rfl | ha
          · have := h2 n (by simp); omega
          · exact h2 a (by simp [ha])
theorem fold_top : ∀ (r : List Int) (n : Int), (r.foldl (fun a b => if a < b then b else a) n ∈ n :: r) ∧ ∀ a ∈ n :: r, a ≤ r.foldl (fun a b => if a < b then b else a) n
  | [], n => by simp
  | m :: r, n => by
    rw [List.foldl_cons]
    by_cases h : n < m
    · rw [if_pos h]
      obtain ⟨h1, h2⟩ := fold_top r m
      refine ⟨List.mem_cons_of_mem _ h1, fun a ha => ?_⟩
      rcases List.mem_cons.mp ha with rfl | ha
      · have := h2 m (by simp); omega
      · exact h2 a ha
    · rw [if_neg h]
      obtain ⟨h1, h2⟩ := fold_top r n
      refine ⟨?_, fun a ha => ?_⟩
      · rcases List.mem_cons.mp h1 with h1 | h1
        · rw [h1]; simp
        · simp [h1]
      · rcases List.mem_cons.mp ha with rfl | ha
        · exact h2 a (by simp)
        · rcases List.mem_cons.mp ha with rfl | ha
          · have := h2 n (by simp); omega
          · exact h2 a (by simp [ha])
theorem low_spec {ns : List Int} (h : ns ≠ []) : lowN ns ∈ ns ∧ ∀ a ∈ ns, lowN ns ≤ a := by
  cases ns with
  | nil => exact absurd rfl h
  | cons n r => exact fold_low r n
theorem top_spec {ns : List Int} (h : ns ≠ []) : topN ns ∈ ns ∧ ∀ a ∈ ns, a ≤ topN ns := by
  cases ns with
  | nil => exact absurd rfl h
  | cons n r => exact fold_top r n
theorem low_eq {ns : List Int} {m : Int} (h1 : m ∈ ns) (h2 : ∀ a ∈ ns, m ≤ a) : m = lowN ns := by
  have hn : ns ≠ [] := fun z => by rw [z] at h1; simp at h1
  have h3 := low_spec hn
  have h4 := h2 _ h3.1
  have h5 := h3.2 _ h1
  omega
theorem top_eq {ns : List Int} {m : Int} (h1 : m ∈ ns) (h2 : ∀ a ∈ ns, a ≤ m) : m = topN ns := by
  have hn : ns ≠ [] := fun z => by rw [z] at h1; simp at h1
  have h3 := top_spec hn
  have h4 := h2 _ h3.1
  have h5 := h3.2 _ h1
  omega
section
variable {X : Cx}
theorem num_mem {ys : Array (Int × Tok)} {i : Nat} (h : i < ys.size) : numAt ys i ∈ ys.toList.map (·.1) := by
  rw [PySem.numAt_eq]; exact PySem.getD_mem (by rw [List.length_map, Array.length_toList]; omega)
theorem num_all {ys : Array (Int × Tok)} {a : Int} (h : a ∈ ys.toList.map (·.1)) : ∃ j, j < ys.size ∧ a = numAt ys j := by
  obtain ⟨j, hj, rfl⟩ := PySem.mem_getD h
  rw [List.length_map, Array.length_toList] at hj
  exact ⟨j, hj, by rw [PySem.numAt_eq]⟩
theorem call_lowL (hc : X.calm = true) : CallR X (.builtin "min") (fun xs H Q => ∃ (p : Addr) (ns : List Int), xs = [.ref p] ∧ ns ≠ [] ∧ SqL X.K H p (ns.map .int) ∧ Q (.int (lowN ns)) H) := fun pins s σ H xs us Q I r h => by
  obtain ⟨p, ns, rfl, hne, hp, hq⟩ := h
  obtain ⟨u, rfl, r1⟩ := vals1 r
  have r1 : u = Value.ref p := r1
  subst r1
  obtain ⟨its, rv, pl, hz⟩ := I.list hp
  obtain ⟨ys, e1, e2⟩ := ints_items rv
  have hl := pl.isList
  rw [e1] at hl
  have hsz : 0 < ys.size := by
    cases ns with
    | nil => exact absurd rfl hne
    | cons n r => have := congrArg List.length e2; simp at this; omega
  refine min_intList (I.ok.hd hc) hl hsz fun v h' tk hv kp => ?_
  obtain ⟨t, rfl⟩ := intItems_at hv
  obtain ⟨h1, h2⟩ := argBest_lt (numAt ys) (ys.size - 1)
  refine ⟨.int _, H, I.kept kp, ⟨t, ?_⟩, hq⟩
  rw [← low_eq (ns := ns) (m := numAt ys (argBest (fun i j => decide (numAt ys i < numAt ys j)) (ys.size - 1)))]
  · rw [← e2]; exact num_mem (by omega)
  · intro a ha
    rw [← e2] at ha
    obtain ⟨j, hj, rfl⟩ := num_all ha
    exact h2 j (by omega)
theorem call_topL (hc : X.calm = true) : CallR X (.builtin "max") (fun xs H Q => ∃ (p : Addr) (ns : List Int), xs = [.ref p] ∧ ns ≠ [] ∧ SqL X.K H p (ns.map .int) ∧ Q (.int (topN ns)) H) := fun pins s σ H xs us Q I r h => by
  obtain ⟨p, ns, rfl, hne, hp, hq⟩ := h
  obtain ⟨u, rfl, r1⟩ := vals1 r
  have r1 : u = Value.ref p := r1
  subst r1
  obtain ⟨its, rv, pl, hz⟩ := I.list hp
  obtain ⟨ys, e1, e2⟩ := ints_items rv
  have hl := pl.isList
  rw [e1] at hl
  have hsz : 0 < ys.size := by
    cases ns with
    | nil => exact absurd rfl hne
    | cons n r => have := congrArg List.length e2; simp at this; omega
  refine max_intList (I.ok.hd hc) hl hsz fun v h' tk hv kp => ?_
  obtain ⟨t, rfl⟩ := intItems_at hv
  obtain ⟨h1, h2⟩ := argBest_gt (numAt ys) (ys.size - 1)
  refine ⟨.int _, H, I.kept kp, ⟨t, ?_⟩, hq⟩
  rw [← top_eq (ns := ns) (m := numAt ys (argBest (fun i j => decide (numAt ys i > numAt ys j)) (ys.size - 1)))]
  · rw [← e2]; exact num_mem (by omega)
  · intro a ha
    rw [← e2] at ha
    obtain ⟨j, hj, rfl⟩ := num_all ha
    exact h2 j (by omega)
theorem tup_walk {p : Addr} {ys : Array (Int × Tok)} {s : Shared} {prog : Program} {w : World} {A : Around} {E : Value → Shared → Prop} {Q : Value → Shared → Prop} (hl : s.heap.IsTuple p (intItems ys))
    (h : ∀ s₂, s₂ = { s with heap := s.heap.push { cls := .type "tuple_iterator", data := .fields #[.ref p, rawInt 0] } } → (s₂.heap.IsTupleIter s.heap.objs.size p 0 ∧ s₂.heap.IsTuple p (intItems ys)) → (∀ b ∈ [s.heap.objs.size, p], b < s₂.heap.objs.size) → Q (.ref s.heap.objs.size) s₂) :
    wpAny (model prog w) A (pyIter (.ref p)) Q E s := by
  have hlt : p < s.heap.objs.size := by obtain ⟨_, e, _⟩ := hl; exact Heap.lt_size e
  refine wpAny_pyIter_tuple hl (h _ rfl ⟨⟨_, Heap.get?_push_size _ rfl, rfl, rfl⟩, ?_⟩ fun b hb => ?_)
  · obtain ⟨o, e, c⟩ := hl
    exact ⟨o, Heap.get?_push_of_some _ e, c⟩
  · show b < (s.heap.push _).objs.size
    rw [Heap.size_push]
    rcases List.mem_cons.mp hb with z | z
    · rw [z]; exact Nat.lt_succ_self _
    · have z' : b = p := by simpa using z
      rw [z']; exact Nat.lt_succ_of_lt hlt
theorem call_lowT (hc : X.calm = true) : CallR X (.builtin "min") (fun xs H Q => ∃ (p : Addr) (ns : List Int), xs = [.ref p] ∧ ns ≠ [] ∧ SqT X.K H p (ns.map .int) ∧ Q (.int (lowN ns)) H) := fun pins s σ H xs us Q I r h => by
  obtain ⟨p, ns, rfl, hne, hp, hq⟩ := h
  obtain ⟨u, rfl, r1⟩ := vals1 r
  have r1 : u = Value.ref p := r1
  subst r1
  obtain ⟨its, rv, pl, hz⟩ := I.tuple hp
  obtain ⟨ys, e1, e2⟩ := ints_items rv
  have hl : s.heap.IsTuple p (intItems ys) := by rw [← e1]; exact pl
  have hlt : p < s.heap.objs.size := by obtain ⟨_, e, _⟩ := hl; exact Heap.lt_size e
  have hsz : 0 < ys.size := by
    cases ns with
    | nil => exact absurd rfl hne
    | cons n r => have := congrArg List.length e2; simp at this; omega
  refine call_min_walk (tup_walk hl fun s₂ es st hfp => ?_)
  subst es
  refine ⟨_, _, _, _, _, _, _, rfl, Walks.tuple (A := X.A.in1) (I.ok.hd hc) _ p (Nat.ne_of_lt hlt) (intItems ys), st, hfp, by simpa [intItems] using hsz, CmpOf.ints_lt (numAt ys) (fun _ _ => intItems_at), fun v h' tk hv hk => ?_⟩
  obtain ⟨t, rfl⟩ := intItems_at hv
  have kp : ∀ b o, s.heap.get? b = some o → h'.get? b = some o := fun b o e => hk b o (fun z => by
    have z' : b = s.heap.objs.size := by simpa using z
    exact absurd (Heap.lt_size e) (by rw [z']; exact Nat.lt_irrefl _)) (Heap.get?_push_of_some _ e)
  have hsz2 : (intItems ys).size = ys.size := by simp [intItems]
  rw [hsz2]
  obtain ⟨h1, h2⟩ := argBest_lt (numAt ys) (ys.size - 1)
  refine ⟨.int _, H, I.kept (t' := tk) kp, ⟨t, rfl⟩, ?_⟩
  rw [low_eq (ns := ns) (m := numAt ys (argBest _ (ys.size - 1)))]
  · exact hq
  · rw [← e2]; exact num_mem (by omega)
  · intro a ha
    rw [← e2] at ha
    obtain ⟨j, hj, rfl⟩ := num_all ha
    exact h2 j (by omega)
theorem call_topT (hc : X.calm = true) : CallR X (.builtin "max") (fun xs H Q => ∃ (p : Addr) (ns : List Int), xs = [.ref p] ∧ ns ≠ [] ∧ SqT X.K H p (ns.map .int) ∧ Q (.int (topN ns)) H) := fun pins s σ H xs us Q I r h => by
  obtain ⟨p, ns, rfl, hne, hp, hq⟩ := h
  obtain ⟨u, rfl, r1⟩ := vals1 r
  have r1 : u = Value.ref p := r1
  subst r1
  obtain ⟨its, rv, pl, hz⟩ := I.tuple hp
  obtain ⟨ys, e1, e2⟩ := ints_items rv
  have hl : s.heap.IsTuple p (intItems ys) := by rw [← e1]; exact pl
  have hlt : p < s.heap.objs.size := by obtain ⟨_, e, _⟩ := hl; exact Heap.lt_size e
  have hsz : 0 < ys.size := by
    cases ns with
    | nil => exact absurd rfl hne
    | cons n r => have := congrArg List.length e2; simp at this; omega
  refine call_max_walk (tup_walk hl fun s₂ es st hfp => ?_)
  subst es
  refine ⟨_, _, _, _, _, _, _, rfl, Walks.tuple (A := X.A.in1) (I.ok.hd hc) _ p (Nat.ne_of_lt hlt) (intItems ys), st, hfp, by simpa [intItems] using hsz, CmpOf.ints_gt (numAt ys) (fun _ _ => intItems_at), fun v h' tk hv hk => ?_⟩
  obtain ⟨t, rfl⟩ := intItems_at hv
  have kp : ∀ b o, s.heap.get? b = some o → h'.get? b = some o := fun b o e => hk b o (fun z => by
    have z' : b = s.heap.objs.size := by simpa using z
    exact absurd (Heap.lt_size e) (by rw [z']; exact Nat.lt_irrefl _)) (Heap.get?_push_of_some _ e)
  have hsz2 : (intItems ys).size = ys.size := by simp [intItems]
  rw [hsz2]
  obtain ⟨h1, h2⟩ := argBest_gt (numAt ys) (ys.size - 1)
  refine ⟨.int _, H, I.kept (t' := tk) kp, ⟨t, rfl⟩, ?_⟩
  rw [top_eq (ns := ns) (m := numAt ys (argBest _ (ys.size - 1)))]
  · exact hq
  · rw [← e2]; exact num_mem (by omega)
  · intro a ha
    rw [← e2] at ha
    obtain ⟨j, hj, rfl⟩ := num_all ha
    exact h2 j (by omega)
theorem call_low (hc : X.calm = true) : CallR X (.builtin "min") (fun xs H Q => (∃ (p : Addr) (ns : List Int), xs = [.ref p] ∧ ns ≠ [] ∧ SqL X.K H p (ns.map .int) ∧ Q (.int (lowN ns)) H) ∨ ∃ (p : Addr) (ns : List Int), xs = [.ref p] ∧ ns ≠ [] ∧ SqT X.K H p (ns.map .int) ∧ Q (.int (lowN ns)) H) := (call_lowL hc).or (call_lowT hc)
theorem call_top (hc : X.calm = true) : CallR X (.builtin "max") (fun xs H Q => (∃ (p : Addr) (ns : List Int), xs = [.ref p] ∧ ns ≠ [] ∧ SqL X.K H p (ns.map .int) ∧ Q (.int (topN ns)) H) ∨ ∃ (p : Addr) (ns : List Int), xs = [.ref p] ∧ ns ≠ [] ∧ SqT X.K H p (ns.map .int) ∧ Q (.int (topN ns)) H) := (call_topL hc).or (call_topT hc)
noncomputable def gOne (f : List Int → Option Int) : List Slot → Option Slot := fun ss => match ss with
  | [.val (.tup ds)] => (intsOf ds).bind fun ns => (f ns).bind fun i => some (.val (.int i))
  | [.fz ds] => (intsOf ds).bind fun ns => (f ns).bind fun i => some (.val (.int i))
  | _ => none
theorem sr_one {f : List Int → Option Int} {c : List Int → Prop} {g : List Int → Int} (hf : ∀ ns i, f ns = some i → c ns ∧ i = g ns) :
    SR K (gOne f) (fun xs H Q => (∃ (p : Addr) (ns : List Int), xs = [.ref p] ∧ c ns ∧ SqL K H p (ns.map .int) ∧ Q (.int (g ns)) H) ∨ ∃ (p : Addr) (ns : List Int), xs = [.ref p] ∧ c ns ∧ SqT K H p (ns.map .int) ∧ Q (.int (g ns)) H) := fun H ss vs s Q hr h k => by
  unfold gOne at h
  split at h
  · rename_i ds
    obtain ⟨ns, h1, h⟩ := bind_some h
    obtain ⟨i, h3, h⟩ := bind_some h
    cases h
    obtain ⟨h4, rfl⟩ := hf _ _ h3
    obtain ⟨v, us, rfl, ⟨⟨a, ws, rfl, q, l⟩, _⟩, h2⟩ := hr
    have h2 : us = [] := h2
    subst h2
    rw [intsOf_eq h1] at l
    rw [l.ints] at q
    exact .inr ⟨a, ns, rfl, h4, q, k _ H (Same.refl H) rfl⟩
  · rename_i ds
    obtain ⟨ns, h1, h⟩ := bind_some h
    obtain ⟨i, h3, h⟩ := bind_some h
    cases h
    obtain ⟨h4, rfl⟩ := hf _ _ h3
    obtain ⟨v, us, rfl, ⟨⟨a, ws, rfl, q, l⟩, _⟩, h2⟩ := hr
    have h2 : us = [] := h2
    subst h2
    rw [intsOf_eq h1] at l
    rw [l.ints] at q
    exact .inl ⟨a, ns, rfl, h4, q.sq, k _ H (Same.refl H) rfl⟩
  · cases h
noncomputable def lowO : List Int → Option Int := fun ns => match ns with
  | [] => none
  | n :: r => some (lowN (n :: r))
noncomputable def topO : List Int → Option Int := fun ns => match ns with
  | [] => none
  | n :: r => some (topN (n :: r))
theorem sr_low : SR K (gOne lowO) (fun xs H Q => (∃ (p : Addr) (ns : List Int), xs = [.ref p] ∧ ns ≠ [] ∧ SqL K H p (ns.map .int) ∧ Q (.int (lowN ns)) H) ∨ ∃ (p : Addr) (ns : List Int), xs = [.ref p] ∧ ns ≠ [] ∧ SqT K H p (ns.map .int) ∧ Q (.int (lowN ns)) H) :=
  sr_one fun ns i h => by
    cases ns with
    | nil => cases h
    | cons n r => cases h; exact ⟨List.cons_ne_nil _ _, rfl⟩
theorem sr_top : SR K (gOne topO) (fun xs H Q => (∃ (p : Addr) (ns : List Int), xs = [.ref p] ∧ ns ≠ [] ∧ SqL K H p (ns.map .int) ∧ Q (.int (topN ns)) H) ∨ ∃ (p : Addr) (ns : List Int), xs = [.ref p] ∧ ns ≠ [] ∧ SqT K H p (ns.map .int) ∧ Q (.int (topN ns)) H) :=
  sr_one fun ns i h => by
    cases ns with
    | nil => cases h
    | cons n r => cases h; exact ⟨List.cons_ne_nil _ _, rfl⟩
variable {a : Expr} {pos pos2 p p2 : Pos}
theorem ints_are : ∀ {ns : List Int} {us : List Value}, Vals (ns.map V.int) us → PyProof.Rows.IntsAre us ns
  | [], _, .nil => .nil
  | n :: r, _, .cons ⟨t, e⟩ q => by subst e; exact .cons n t (ints_are q)
noncomputable def unlike (ns : List Int) : Nat := (PyProof.Rows.firstMet (fun i => ns.getD i 0) ns.length).length
theorem pe_len_set {ta : TA} (hc : X.calm = true) (hg : Gl X "len") (hm : X.mg "len" = none) (hg2 : Gl X "set") (hm2 : X.mg "set" = none) (ha : PA X [a] ta) (hs : starEach [a] X.env = [(false, eval a X.env)] := by rfl)
    (hs2 : starEach [Expr.Call (.Name "set" p2) [a] [] pos2] X.env = [(false, eval (Expr.Call (.Name "set" p2) [a] [] pos2) X.env)] := by rfl) :
    PE X (.Call (.Name "len" p) [.Call (.Name "set" p2) [a] [] pos2] [] pos) (fun σ H Q => ta σ H fun vs H1 => ∃ (t : Addr) (ns : List Int), vs = [.ref t] ∧ ns.length < 4000 ∧ SqL X.K H1 t (ns.map .int) ∧ Q (.int (unlike ns : Nat)) H1) := by
  intro pins s σ H Q I h
  refine PyProof.Rows.Call_ (ld_blt I hg hm (show bootBuiltins "len" = some (.builtin "len") by decide +kernel) (PyProof.Rows.callWith_builtin1 ?_ (by rw [hs2]; rfl) rfl))
  rw [hs2]
  show wpAny _ _ (spliced [(false, _)]) _ _ s
  refine Calls.spliced_cons ?_
  refine PyProof.Rows.Call_ (ld_blt I hg2 hm2 (show bootBuiltins "set" = some (.type "set") by decide +kernel) (PyProof.Rows.callWith_type1 (thn (ha pos2 pins s σ H _ I h) fun us s1 ⟨vs, H1, I1, r1, q1⟩ => ?_) (by rw [hs]; rfl) rfl))
  obtain ⟨t, ns, e, hn, hq, q⟩ := q1
  subst e
  obtain ⟨u, rfl, ru⟩ := vals1 r1
  cases ru
  obtain ⟨its, rv, pp, hz⟩ := I1.list hq
  obtain ⟨ys, e1, e2⟩ := ints_items rv
  have hl := pp.isList
  have hlen := rv.length
  rw [List.length_map] at hlen
  have hi : PyProof.Rows.IntsAre its.toArray.toList ns := ints_are rv
  refine call_set_list (I1.ok.hd hc) hl hi (by simp [scanBound]; omega) fun h' tk st kp => ?_
  refine Calls.spliced_nil ?_
  obtain ⟨o, es, ep, tt, ho, hex, hd, _, _, hb, hf, hnn⟩ := st
  refine call_len_set (s := { s1 with heap := h', toks := tk }) ho hex hd hf (by simp [scanBound] at hb; omega) ?_
  have kp' : ∀ b o, s1.heap.get? b = some o → h'.get? b = some o := fun b o e => kp b o (Heap.lt_size e) e
  refine ⟨.int _, H1, I1.kept kp', ⟨_, rfl⟩, ?_⟩
  rw [hnn]
  have : its.toArray.size = ns.length := by simp [hlen]
  rw [this]
  exact q
noncomputable def gSet : List Slot → Option Slot := fun ss => match ss with
  | [.fz ds] => (intsOf ds).bind fun ns => if ns.length < 4000 then some (.val (.int (unlike ns : Nat))) else none
  | _ => none
theorem sr_set : SR K gSet (fun xs H Q => ∃ (t : Addr) (ns : List Int), xs = [.ref t] ∧ ns.length < 4000 ∧ SqL K H t (ns.map .int) ∧ Q (.int (unlike ns : Nat)) H) := fun H ss vs s Q hr h k => by
  unfold gSet at h
  split at h
  · rename_i ds
    obtain ⟨ns, h1, h⟩ := bind_some h
    split at h
    · rename_i hn
      cases h
      obtain ⟨v, us, rfl, ⟨⟨a, ws, rfl, q, l⟩, _⟩, h2⟩ := hr
      have h2 : us = [] := h2
      subst h2
      rw [intsOf_eq h1] at l
      rw [l.ints] at q
      exact ⟨a, ns, rfl, hn, q.sq, k _ H (Same.refl H) rfl⟩
    · cases h
  · cases h
theorem q_len_set {f : M (List R)} (hc : X.calm = true) (hg : Gl X "len") (hm : X.mg "len" = none) (hg2 : Gl X "set") (hm2 : X.mg "set" = none) (ha : QA X [a] f) (hs : starEach [a] X.env = [(false, eval a X.env)] := by rfl)
    (hs2 : starEach [Expr.Call (.Name "set" p2) [a] [] pos2] X.env = [(false, eval (Expr.Call (.Name "set" p2) [a] [] pos2) X.env)] := by rfl) :
    QE X (.Call (.Name "len" p) [.Call (.Name "set" p2) [a] [] pos2] [] pos) (mOpF gSet f) := q_opN sr_set (pe_len_set hc hg hm hg2 hm2 ha hs hs2)
end
end Mi
namespace Mi
open PySem L2
open PySem.Spec
variable {K : PySem.W.Frag} {H H' : Hp} {O O' : Addr → Prop} {fp fp' : Nat → List Addr} {B : Hp} {ρ ρ' : En} {σ : L2.St}
noncomputable def CX1 (P : Program) (w : World) : CXT := fun outer H s E e s' => ∃ (a : Addr) (C a0 : Value) (H' : Hp) (G : Heap), e = .ref a ∧ s'.os = s.os ∧ PyProof.Rows.AllBare s'.gens ∧ Un (frs outer) [] H H' s.heap s'.heap ∧ HOk P w H' s'.heap ∧
  Heap.FlyingW G outer a C a0 s'.heap ∧ (∀ b o, s.heap.get? b = some o → b ∉ frs outer → H b = none → G.get? b = some o) ∧ (∀ b o, s.heap.get? b = some o → b ∉ frs outer → ∃ o', G.get? b = some o') ∧
  (∀ b u, H' b = some u → ∃ o, G.get? b = some o) ∧ H' a = none ∧ E C none H'
theorem obj_at {P : Program} {w : World} {h : Heap} {a : Addr} : ∀ {o : HO}, ObjOk P w H h a o → ∃ ob, h.get? a = some ob
  | .lst _, x => by obtain ⟨_, _, _, _, e⟩ := x; exact ⟨_, e⟩
  | .tup _, x => by obtain ⟨_, _, _, _, e, _⟩ := x; exact ⟨_, e⟩
  | .dK _, x => by obtain ⟨_, _, _, _, _, _, _, e, _⟩ := x; exact ⟨_, e⟩
  | .dT _, x => by obtain ⟨_, _, _, _, _, _, _, e, _⟩ := x; exact ⟨_, e⟩
  | .set _ _, x => by obtain ⟨_, _, _, _, e, _⟩ := x; exact ⟨_, e⟩
  | .ins _ _ _, x => by obtain ⟨_, _, _, e, _⟩ := x; exact ⟨_, e⟩
  | .own _, x => x
  | .xd _, x => by obtain ⟨_, ⟨_, _, _, e, _⟩, _⟩ := x; exact ⟨_, e⟩
  | .rng _ _, x => by obtain ⟨_, _, _, e⟩ := x; exact ⟨_, e⟩
  | .frz _ _, x => ⟨_, x.1⟩
  | .tbl _, x => ⟨_, x⟩
  | .met _ _, x => ⟨_, x⟩
  | .ext _, x => x.2.1
section
variable {P : Program} {w : World} {K : PySem.W.Frag} {mg : Str → Option Value} {base : Heap} {N : List Str} {qual : Str} {scope : Scope} {f : Addr} {cd : Value} {A : Around} {outer : List PySem.Env} {s₀ : Shared} {H₀ : Hp} {E : XK}
theorem raise_out {pins : List (Addr × Obj)} {σ : L2.St} {H : Hp} {s : Shared} {h' : Heap} {e : Addr} {C : Value} {args : List Value} (I : Inv (cxOf (CX1 P w) P w K mg base N qual scope f cd A outer s₀ H₀ E) pins σ H s)
    (hx : Heap.MadeExcOf s.heap h' e C args) (hE : E C none H) : (cxOf (CX1 P w) P w K mg base N qual scope f cd A outer s₀ H₀ E).xe (.ref e) { s with heap := h' } := by
  have hst : s.heap.FunFrames base (PyProof.Rows.envOfC qual scope s₀.heap.objs.size f cd :: outer) := I.stack
  have hfr : (A.deeper (PyProof.Rows.envOfC qual scope s₀.heap.objs.size f cd)).frames = some (PyProof.Rows.envOfC qual scope s₀.heap.objs.size f cd :: outer) := I.ok.frames
  have hin : ∀ env ∈ (PyProof.Rows.envOfC qual scope s₀.heap.objs.size f cd :: outer), ∀ b, env.frame = some b → b ∈ (PyProof.Rows.envOfC qual scope s₀.heap.objs.size f cd :: outer).filterMap (·.frame) := fun env he b hb => List.mem_filterMap.mpr ⟨env, he, hb⟩
  have hmem : ∀ b, b ∈ (PyProof.Rows.envOfC qual scope s₀.heap.objs.size f cd :: outer).filterMap (·.frame) → b = s₀.heap.objs.size ∨ b ∈ frs outer := fun b hb => List.mem_cons.mp hb
  have old : ∀ b o, s₀.heap.get? b = some o → b ≠ s₀.heap.objs.size := fun b o q => Nat.ne_of_lt (Heap.lt_size q)
  show wpAny _ _ (leaving _ _) _ _ _
  refine wpAny_leaves_madeW (s := { s with heap := h' }) hfr rfl (fun b o q => PySem.W.of_hideAll _ q) (PySem.W.funFrames_hide hst hin) hx fun h'' t x1 x2 x3 x4 => ?_
  have toG : ∀ b o, s.heap.get? b = some o → b ≠ s₀.heap.objs.size → b ∉ frs outer → (PySem.W.hideAll s.heap ((PyProof.Rows.envOfC qual scope s₀.heap.objs.size f cd :: outer).filterMap (·.frame))).get? b = some o :=
    fun b o q n1 n2 => PySem.W.hideAll_get _ q fun hm => (hmem b hm).elim n1 n2
  have slots : ∀ b ∈ frs outer, ∀ o, s.heap.get? b = some o → ∃ sl, h''.get? b = some { o with slots := sl } := fun b hb o q => by
    obtain ⟨_, o', ho', hd⟩ := hst.mem (b := b) (List.mem_cons_of_mem _ hb)
    rw [q] at ho'; cases ho'
    exact x4 b o (hx.keeps b o q) hd
  have b0 : Un (frs outer) [] H₀ H s₀.heap s.heap := I.base
  have fL : H s₀.heap.objs.size = none := I.free
  have trk : ∀ b u, H b = some u → b ≠ s₀.heap.objs.size ∧ b ∉ frs outer := fun b u q => by
    refine ⟨fun z => ?_, fun z => ?_⟩
    · rw [← z, q] at fL; cases fL
    · have := I.stkFree b (List.mem_cons_of_mem _ z)
      rw [q] at this; cases this
  refine ⟨e, C, .ref t, H, _, rfl, I.os, I.bare, ⟨fun b o q n hb hx => ?_, fun b o q n hb hx => ?_, fun b o q n hx => b0.free b o q n hx, fun b o q hx => ?_, b0.tups, b0.frzs, b0.tbls⟩, fun b u q => ?_, x1, fun b o q n1 n2 => ?_, fun b o q n1 => ?_, fun b u q1 => ?_, ?_, hE⟩
  · exact x1.1 b o (toG b o (b0.keep b o q n hb hx) (old b o q) hb)
  · obtain ⟨sl, q1⟩ := b0.slot b o q n hb hx
    obtain ⟨sl2, q2⟩ := slots b hb _ q1
    exact ⟨sl2, q2⟩
  · obtain ⟨o', q1⟩ := b0.there b o q hx
    by_cases hb : b ∈ frs outer
    · obtain ⟨sl, q2⟩ := slots b hb o' q1
      exact ⟨_, q2⟩
    · exact ⟨o', x1.1 b o' (toG b o' q1 (old b o q) hb)⟩
  · refine (I.hok b u q).stay (fun c uc hc qc => ?_) (fun _ z => z) fun _ _ z => z
    have tc : ∃ v, H c = some v := by
      rcases hc with rfl | hc
      · exact ⟨u, q⟩
      · exact ⟨_, hc⟩
    obtain ⟨v, tc⟩ := tc
    exact x1.1 c uc (toG c uc qc (trk c v tc).1 (trk c v tc).2)
  · exact toG b o (b0.keep b o q n2 n1 (by simp)) (old b o q) n1
  · obtain ⟨o', q1⟩ := b0.there b o q (by simp)
    exact ⟨o', toG b o' q1 (old b o q) n1⟩
  · obtain ⟨o', q3⟩ := obj_at (I.hok b u q1)
    exact ⟨o', toG b o' q3 (trk b u q1).1 (trk b u q1).2⟩
  · cases q : H e with
    | none => rfl
    | some u =>
      obtain ⟨o', q3⟩ := obj_at (I.hok e u q)
      rw [hx.new] at q3; cases q3
end
inductive OutX where
  | o (x : Out) | ex (c : Str)
noncomputable abbrev MX := En → Option OutX
noncomputable def OutXOk (K : PySem.W.Frag) (B : Hp) (H : Hp) (O : Addr → Prop) (fp : Nat → List Addr) (D : Ends) (W : Str → Hp → Prop) : OutX → Prop
  | .o x => OutOk K B H O fp D x
  | .ex c => ∀ ρ' σ' H' O' fp', Rel K B ρ' σ' H' O' fp' → W c H'
noncomputable def tQX (K : PySem.W.Frag) (W : Str → Hp → Prop) (g : MX) : TS := fun D σ H => ∃ B ρ O fp o, Rel K B ρ σ H O fp ∧ g ρ = some o ∧ OutXOk K B H O fp D W o
noncomputable abbrev QX (X : Cx) (W : Str → Hp → Prop) (st : Stmt) (g : MX) : Prop := PS X st (tQX X.K W g)
noncomputable abbrev QXs (X : Cx) (W : Str → Hp → Prop) (st : List Stmt) (g : MX) : Prop := PSs X st (tQX X.K W g)
theorem OutXOk.fr {D : Ends} {W : Str → Hp → Prop} {o : OutX} {H1 : Hp} {O1 : Addr → Prop} {fp1 : Nat → List Addr} (F : Fr H O fp H1 O1 fp1) (h : OutXOk K B H O fp D W o) : OutXOk K B H1 O1 fp1 D W o := by
  cases o with
  | o x => exact OutOk.fr F h
  | ex c => exact h
noncomputable def xO (g : MS) : MX := fun ρ => (g ρ).bind fun o => some (.o o)
noncomputable def xSeq (a b : MX) : MX := fun ρ => (a ρ).bind fun o => match o with
  | .o (.nx ρ') => b ρ'
  | .o (.rt s) => some (.o (.rt s))
  | .o (.bk ρ') => some (.o (.bk ρ'))
  | .o (.ct ρ') => some (.o (.ct ρ'))
  | .ex c => some (.ex c)
noncomputable def xIf (c : M Bool) (a b : MX) : MX := fun ρ => (c ρ).bind fun x => if x.1 = true then a x.2 else b x.2
noncomputable def xRaise (c : Str) : MX := fun _ => some (.ex c)
noncomputable def xforL (tg : MG) (body : MX) : List Slot → MX
  | [] => fun ρ => some (.o (.nx ρ))
  | s :: r => fun ρ => (tg s ρ).bind fun ρ1 => (body ρ1).bind fun o => match o with
    | .o (.nx ρ2) => xforL tg body r ρ2
    | .o (.ct ρ2) => xforL tg body r ρ2
    | .o (.bk ρ2) => some (.o (.nx ρ2))
    | .o (.rt s) => some (.o (.rt s))
    | .ex c => some (.ex c)
noncomputable def xFor (tg : MG) (it : M (List Slot)) (body : MX) : MX := fun ρ => (it ρ).bind fun x => xforL tg body x.1 x.2
section
variable {X : Cx} {W : Str → Hp → Prop} {e a b tg iter : Expr} {st : Stmt} {rest body : List Stmt} {pos : Pos}
theorem qx_lift {g : MS} (h : QS X st g) : QX X W st (xO g) := h.imp fun D σ H ⟨B, ρ, O, fp, o, R, hg, k⟩ => by
  obtain ⟨o1, h1, hg⟩ := bind_some hg
  cases hg
  exact ⟨B, ρ, O, fp, o1, R, h1, k⟩
theorem qxs_lift {g : MS} (h : QSs X rest g) : QXs X W rest (xO g) := h.imp fun D σ H ⟨B, ρ, O, fp, o, R, hg, k⟩ => by
  obtain ⟨o1, h1, hg⟩ := bind_some hg
  cases hg
  exact ⟨B, ρ, O, fp, o1, R, h1, k⟩
theorem qxs_cons {g1 g2 : MX} (h1 : QX X W st g1) (h2 : QXs X W rest g2) : QXs X W (st :: rest) (xSeq g1 g2) := (pss_cons h1 h2).imp fun D σ H h => by
  obtain ⟨B, ρ, O, fp, o, R, hg, k⟩ := h
  obtain ⟨o1, h1, hg⟩ := bind_some hg
  refine ⟨B, ρ, O, fp, o1, R, h1, ?_⟩
  cases o1 with
  | ex c => cases hg; exact k
  | o x =>
    cases x with
    | nx ρ1 => exact fun σ' H' O' fp' R' F' => ⟨B, ρ1, O', fp', o, R', hg, k.fr F'⟩
    | rt s => cases hg; exact k
    | bk ρ1 => cases hg; exact k
    | ct ρ1 => cases hg; exact k
theorem qxs_one {g : MX} (h1 : QX X W st g) : QXs X W [st] g := pss_one h1
theorem qx_if {c : Expr} {as bs : List Stmt} {m : M Bool} {g h : MX} (hc : QT X c m) (ha : QXs X W as g) (hb : QXs X W bs h) : QX X W (.If c as bs pos) (xIf m g h) :=
  (ps_if hc ha hb).imp fun D σ H ⟨B, ρ, O, fp, o, R, hg, k⟩ => by
    obtain ⟨⟨x, ρ1⟩, h1, hg⟩ := bind_some hg
    refine ⟨B, ρ, O, fp, x, ρ1, R, h1, fun H' O' fp' R' F' => ?_⟩
    cases x with
    | true =>
      rw [if_pos rfl] at hg
      rw [if_pos rfl]
      exact ⟨B, ρ1, O', fp', o, R', hg, k.fr F'⟩
    | false =>
      rw [if_neg Bool.false_ne_true] at hg
      rw [if_neg Bool.false_ne_true]
      exact ⟨B, ρ1, O', fp', o, R', hg, k.fr F'⟩
theorem xfor_of {D : Ends} {ks : List Nat} {it : M (List Slot)} {g : MG} {m : MX} {σ : L2.St} {H : Hp} (h : tQX K W (xFor g it m) D σ H) : tFor (tQI K it) (tQG K ks g) (tQX K W m) D σ H := by
  obtain ⟨B, ρ, O, fp, o, R, hg, k⟩ := h
  obtain ⟨⟨its, ρ1⟩, h1, hg⟩ := bind_some hg
  refine ⟨B, ρ, O, fp, its, ρ1, R, h1, fun J H1 O1 fp1 R1 F1 W1 => ?_⟩
  refine ⟨fun i m' σ' H' => m' = its.length - i ∧ i ≤ its.length ∧ ∃ ρ' O' fp', Rel K B ρ' σ' H' O' fp' ∧ Fr H1 O1 fp1 H' O' fp' ∧ xforL g m (its.drop i) ρ' = some o, ⟨its.length, by simp, Nat.zero_le _, ρ1, O1, fp1, R1, Fr.refl, hg⟩, ?_⟩
  rintro i m' σ' H' ⟨rfl, hi, ρ', O', fp', R', F', e'⟩
  by_cases hlt : i < its.length
  · right
    have hd : its.drop i = its[i] :: its.drop (i + 1) := List.drop_eq_getElem_cons hlt
    rw [hd] at e'
    obtain ⟨ρ2, q2, e'⟩ := bind_some e'
    obtain ⟨ob, q3, e'⟩ := bind_some e'
    obtain ⟨g1, g2⟩ := W1.go H' O' fp' F' i its[i] (by simp [hlt])
    refine ⟨g1, fun σ2 H2 => ∃ ρ' O' fp', Rel K B ρ' σ2 H2 O' fp' ∧ Fr H1 O1 fp1 H2 O' fp' ∧ xforL g m (its.drop (i + 1)) ρ' = some o, fun σ2 H2 h => ⟨its.length - (i + 1), by omega, rfl, hlt, h⟩, fun x H2 y => ?_⟩
    obtain ⟨sm, sl⟩ := g2 x H2 y
    refine ⟨B, ρ', O', fp', its[i], ρ2, R'.grow sm, sl, q2, fun σ3 H3 O3 fp3 _ R3 F3 => ⟨B, ρ2, O3, fp3, ob, R3, q3, ?_⟩⟩
    have F4 : Fr H1 O1 fp1 H3 O3 fp3 := F'.trans ((Fr.grow R' sm).trans F3)
    cases ob with
    | ex c => cases e'; exact k
    | o x =>
      cases x with
      | nx ρ4 => exact fun σ4 H4 O4 fp4 R4 F5 => ⟨ρ4, O4, fp4, R4, F4.trans F5, e'⟩
      | ct ρ4 => exact fun σ4 H4 O4 fp4 R4 F5 => ⟨ρ4, O4, fp4, R4, F4.trans F5, e'⟩
      | bk ρ4 =>
        cases e'
        exact fun σ4 H4 O4 fp4 R4 F5 => k σ4 H4 O4 fp4 R4 (F1.trans (F4.trans F5))
      | rt s =>
        cases e'
        exact k
  · left
    have e : i = its.length := by omega
    subst e
    rw [List.drop_length] at e'
    cases e'
    exact ⟨W1.stop H' O' fp' F', k σ' H' O' fp' R' (F1.trans F')⟩
theorem qx_for {it : M (List Slot)} {ks : List Nat} {g : MG} {m : MX} (hp : PassesOwn (model X.prog X.w) X.A X.env X.xe) (hc : X.calm = true) (hi : QI X tg iter it) (hg : QG X tg ks g) (hb : QXs X W body m)
    (hs : ∀ x, foldedSetIterable iter X.env x = pure x := by intro _; rfl) : QX X W (.For tg iter body [] pos) (xFor g it m) := (ps_for hp hc hi hg hb hs).imp fun D σ H h => xfor_of h
end
def vBases : List Value := [.type "ValueError", .type "Exception", .type "BaseException", .type "object"]
structure OwnX (K : PySem.W.Frag) (mg : Str → Option Value) (x : Str) (C : Addr) : Prop where
  bound : mg x = some (.ref C)
  exc : PySem.W.excIn K C vBases "ValueError.__new__" = true
theorem own_obj {h : Heap} {C : Addr} {bmB : List Value} {newId : String} (X : K.In h) (q : PySem.W.excIn K C bmB newId = true) :
    ∃ bm N nm q bs hdct sn sub ab col dd k0 k1 k2 k3 k5 mN, h.get? C = some (excClassObj nm q C N bs bm hdct sn sub ab col dd k0 k1 k2 k3 k5 newId) ∧ h.Ns N mN ∧ mN "__init__" = none ∧ OwnTail h bmB bm := by
  unfold PySem.W.excIn at q; split at q
  · rename_i dd cd sl ho
    split at q
    · rename_i C' bm k0 k1 k2 k3 n k5 hm hs; simp only [Bool.and_eq_true, beq_iff_eq, Bool.not_eq_true'] at q
      obtain ⟨⟨⟨⟨⟨rfl, rfl⟩, hdel⟩, ht⟩, hok⟩, hni⟩ := q; obtain ⟨nm, bs, mro, ns, qn, hd, sn, sub, ab, col, del⟩ := cd
      dsimp only at hm hdel hok hni
      subst hm hdel
      have hsl : sl = #[k0, k1, k2, k3, some (.builtin n), k5] := by obtain ⟨l⟩ := sl; simp only at hs; rw [hs]
      subst hsl; exact ⟨bm, ns, nm, qn, bs, hd, sn, sub, ab, col, dd, k0, k1, k2, k3, k5, _, X _ _ ho, .of_isNs (PySem.W.isNs_of_in X hok), PySem.W.nsMap_none_of_in X hok hni, PySem.W.tail_of_in X ht⟩
    · cases q
  · cases q
noncomputable def Raiser (X : Cx) (W : Str → Hp → Prop) : Prop := ∀ (pins : List (Addr × Obj)) (σ : L2.St) (H : Hp) (s : Shared) (h' : Heap) (e : Addr) (c : Str) (C : Value) (args : List Value), Inv X pins σ H s → X.mg c = some C → Heap.MadeExcOf s.heap h' e C args → W c H → X.xe (.ref e) { s with heap := h' }
section
variable {X : Cx} {W : Str → Hp → Prop} {c txt : Str} {C : Addr} {np cpos pos p2 : Pos} {j : Nat}
theorem ps_raise (R : Raiser X W) (hc : X.calm = true) (O : OwnX X.K X.mg c C) (hg : Gl X c) (hd : (c == ("__debug__" : Str)) = false := by decide)
    (he : starEach [Expr.Constant (.str txt) j p2] X.env = [(false, eval (Expr.Constant (.str txt) j p2) X.env)] := by rfl) :
    PS X (.Raise (some (.Call (.Name c np) [.Constant (.str txt) j p2] [] cpos)) none pos) (fun _ _ H => W c H) := by
  intro pins s σ H D I h
  obtain ⟨bm, N, nm, q, bs, hdct, sn, sub, ab, col, dd, k0, k1, k2, k3, k5, mN, hC, hN, hni, T⟩ := own_obj I.ok.mod.kin O.exc
  refine wpAny_Raise_call_subT (C := C) (nm := nm) (q := q) (N := N) (bs := bs) (bm := bm) (hdct := hdct) (sn := sn) (sub := sub) (ab := ab) (col := col) (dd := dd) (k0 := k0) (k1 := k1) (k2 := k2) (k3 := k3) (k5 := k5)
    PySem.F.excBase_ValueError (mN := mN) (T.hasType PySem.F.excBase_ValueError.hasBase) (I.ok.hd hc) (by rw [he]; rfl) hni (ld_glob I hg O.bound ⟨rfl, ?_⟩ hd)
  rw [he]
  refine Calls.evalArgs_plain ?_
  refine Calls.spliced_cons ?_
  refine Calls.Constant_str (k := j) (pos := p2) ?_
  refine Calls.spliced_nil ?_
  have I1 := I.tok (s.toks + 1)
  exact ⟨rfl, by show 1 ≤ sizeLine; decide, I.bk _ _ hC, hN.keeps I.bk, T.keeps I.bk, fun h' e hx => R pins σ H _ h' e c _ _ I1 O.bound hx h⟩
theorem qx_raise (R : Raiser X W) (hc : X.calm = true) (O : OwnX X.K X.mg c C) (hg : Gl X c) (hd : (c == ("__debug__" : Str)) = false := by decide)
    (he : starEach [Expr.Constant (.str txt) j p2] X.env = [(false, eval (Expr.Constant (.str txt) j p2) X.env)] := by rfl) :
    QX X W (.Raise (some (.Call (.Name c np) [.Constant (.str txt) j p2] [] cpos)) none pos) (xRaise c) :=
  (ps_raise R hc O hg hd he).imp fun D σ H ⟨B, ρ, O, fp, o, Rr, hg, k⟩ => by
    cases hg
    exact k ρ σ H O fp Rr
end
inductive ResX where
  | v (s : Slot) | x (c : Str)
noncomputable def spX (K : PySem.W.Frag) (mg : Str → Option Value) (n : Nat) (F : List Slot → Option ResX) : Sp := fun vs H Q E => ∃ ss r, ss.length = n ∧ RdL K H ss vs ∧ F ss = some r ∧
  match r with
  | .v s => Good K H s Q
  | .x c => ∀ C H', mg c = some C → Same H H' → E C none H'
noncomputable def runX (n N : Nat) (g : MX) : List Slot → Option ResX := fun ss => if ss.length = n then (g (ss.map some ++ List.replicate (N - n) none)).bind fun o => match o with
  | .o (.nx _) => some (.v (.val .non))
  | .o (.rt s) => (fresh s).bind fun t => some (.v t)
  | .o (.bk _) => none
  | .o (.ct _) => none
  | .ex c => some (.x c)
  else none
structure CalX (P : Program) (w : World) (K : PySem.W.Frag) (mg : Str → Option Value) (base : Heap) (k : Nat) (x : Str) (n : Nat) (F : List Slot → Option ResX) : Prop where
  ex : ∃ f fd ps, FnOk P w K mg base (CX1 P w) k f fd ps (spX K mg n F) ∧ Binds K fd ps [] ∧ PySem.W.keepIn K (.ref f) = true ∧ mg x = some (.ref f)
end Mi
namespace Mi
open PySem L2
open PySem.Spec
variable {K : PySem.W.Frag} {H H' : Hp} {O O' : Addr → Prop} {fp fp' : Nat → List Addr} {B : Hp} {ρ ρ' : En} {σ : L2.St}
noncomputable abbrev marked (X : Cx) (a : Addr) : Cx := { X with A := X.A.mark (some (.ref a)), calm := false, xe := fun _ _ => False }
theorem Ok.marked {X : Cx} (ok : X.Ok) (a : Addr) : (marked X a).Ok :=
  ⟨ok.mod, ok.kind, ok.glob, ok.blt, ok.above, ok.inj, ok.has, ok.cab, (fun z => by cases z), ok.frames, ok.stk, ok.exf, ok.bs, ok.bsz, ok.noex, ok.exfs, ok.funs, ok.frf⟩
section
variable {X : Cx} {pins : List (Addr × Obj)} {σ : L2.St} {H H1 H2 : Hp} {s s1 s' : Shared} {D : Ends} {E : XK}
theorem inv_mark (I : Inv X pins σ H s) (a : Addr) : Inv (marked X a) pins σ H s := ⟨Ok.marked I.ok a, I.os, I.bare, I.base, I.loc, I.cell, I.free, I.freeC, I.pin, I.hok, I.len⟩
theorem inv_land {G h6 : Heap} (I : Inv X pins σ H1 s1) (hos : s'.os = s1.os) (hb : PyProof.Rows.AllBare s'.gens) (un : Un (frs X.stack) [] H1 H2 s1.heap s'.heap) (hok : HOk X.prog X.w H2 s'.heap)
    (c1 : ∀ b o, s1.heap.get? b = some o → b ∉ frs X.stack → H1 b = none → G.get? b = some o) (c2 : ∀ b o, s1.heap.get? b = some o → b ∉ frs X.stack → ∃ o', G.get? b = some o') (c3 : ∀ b u, H2 b = some u → ∃ o, G.get? b = some o)
    (g1 : G.StaysIn s'.heap) (g6 : G.StaysIn h6) (up : s'.heap.UpToSlots h6) (tk : Nat) : Inv X pins σ H2 { s' with heap := h6, toks := tk } := by
  have slots : ∀ b ∈ frs X.stack, ∀ o, s1.heap.get? b = some o → ∀ sl, s'.heap.get? b = some { o with slots := sl } → ∃ sl, h6.get? b = some { o with slots := sl } := fun b hb o q sl q1 => by
    obtain ⟨_, o', ho', hd⟩ := I.stack.mem (b := b) hb
    rw [q] at ho'; cases ho'
    obtain ⟨sl2, q2⟩ := up b _ q1 hd
    exact ⟨sl2, q2⟩
  refine I.call' (s' := { s' with heap := h6, toks := tk }) (ch := []) hos ⟨fun b o q n hb hx => g6 b o (c1 b o q hb n), fun b o q n hb hx => ?_, fun b o q n hx => un.free b o q n hx, fun b o q hx => ?_, un.tups, un.frzs, un.tbls⟩ (fun b u q => ?_) hb (fun b z => absurd z (by simp))
  · obtain ⟨sl, q1⟩ := un.slot b o q n hb hx
    exact slots b hb o q sl q1
  · by_cases hb : b ∈ frs X.stack
    · obtain ⟨sl, q1⟩ := un.slot b o q (I.stkFree b hb) hb hx
      obtain ⟨sl2, q2⟩ := slots b hb o q sl q1
      exact ⟨_, q2⟩
    · obtain ⟨o', q1⟩ := c2 b o q hb
      exact ⟨o', g6 b o' q1⟩
  · refine (hok b u q).stay (fun c uc hc qc => ?_) (fun _ z => z) fun _ _ z => z
    have tc : ∃ v, H2 c = some v := by
      rcases hc with rfl | hc
      · exact ⟨u, q⟩
      · exact ⟨_, hc⟩
    obtain ⟨v, tc⟩ := tc
    obtain ⟨o, q1⟩ := c3 c v tc
    have := g1 c o q1
    rw [qc] at this; cases this
    exact g6 c uc q1
theorem looks_exc {M : Model} {h : Heap} {a : Addr} {C : Value} (p : ∃ ob, h.get? a = some ob ∧ ob.cls = C) : PySem.W.Looks M h (typeOf (.ref a)) C := by
  obtain ⟨o, h1, h2⟩ := p
  exact h2 ▸ (PySem.W.Looks.ld h1).andThen .now
theorem eval_callX {Ex : Value → Shared → Prop} {Q : VK} {x : Str} {p pos : Pos} {ea : Expr} {es : List Expr} {t : TA} {k : Nat} {f : Addr} {fd : FuncData} {ps : List Str} {sp : Sp} (G : FnOk X.prog X.w X.K X.mg X.base (CX1 X.prog X.w) k f fd ps sp)
    (hr : Room k X.A) (hg : Gl X x) (hm : X.mg x = some (.ref f)) (hk : PySem.W.keepIn X.K (.ref f) = true) (hb : Binds X.K fd ps []) (ha : PA X (ea :: es) t) (hx0 : ∀ e s, X.xe e s → False) (I : Inv X pins σ H s)
    (h : t σ H fun vs H1 => sp vs H1 Q E) (hp : ∀ H1 s1 e s', Inv X pins σ H1 s1 → CX1 X.prog X.w X.stack H1 s1 E e s' → Ex e s')
    (hdb : (x == ("__debug__" : Str)) = false) (he : starEach (ea :: es) X.env = (false, eval ea X.env) :: starEach es X.env) (hpl : (backTo pos (starEach es X.env)).any (·.1) = false) :
    wpAny (model X.prog X.w) X.A (eval (.Call (.Name x p) (ea :: es) [] pos) X.env) (EP X pins σ Q) Ex s := by
  refine wpAny_Call_Name_kw (ld_glob I hg hm ?_ hdb)
  refine PySem.W.callWith_K (h₀ := X.base) I.ok.mod.kin hk (wpAny_mono (ha pos pins s σ H _ I h) (fun us s1 ⟨vs, H1, I1, r, q⟩ => ⟨I1.kIn, ?_⟩) fun e s z => (hx0 e s z).elim) he hpl
  have r2 : Vals (vs ++ []) (us ++ []) := r.append .nil
  rw [List.append_nil, List.append_nil] at r2
  have hl : (us ++ []).length = ps.length := by rw [List.append_nil, ← r2.length]; exact G.len _ _ _ _ q
  have hbb := hb s1 us I1.kIn hl
  rw [List.append_nil] at hbb
  refine wpAny_call (codeAny_mono (G.run X.A X.stack s1 H1 ⟨us, []⟩ us vs Q E hr I1.env0 hbb r2 q) fun rr s' hq => ?_)
  cases rr with
  | error e => exact hp H1 s1 e s' I1 hq
  | ok fl =>
    cases fl with
    | ret u => exact I1.after hq
    | next => exact False.elim hq
    | brk => exact False.elim hq
    | cont => exact False.elim hq
end
end Mi
namespace Mi
open PySem PySem.Calls PyProof.Rows Builtin Builtin.ObjectAttr Builtin.Getset_descriptor
theorem find_data {K : PySem.W.Frag} {M : Model} {h : Heap} (X : K.In h) {x C : Addr} {name : Str} {g a : Value} (ha : PySem.W.findIn K (.ref C) name = some (some a)) (hg : PySem.W.specialIn K a "__get__" = some (some g)) (ht : PySem.W.takesIn K a = some true) :
    PySem.W.Looks M h (find (.ref x) (.ref C) name) (.bind g a) := by
  have L1 := PySem.W.looks_findIn (M := M) X ha
  have L2 : PySem.W.Looks M h (getOf (some a)) (some g) := PySem.W.looks_specialIn X hg
  have L3 := PySem.W.looks_takesIn (M := M) X ht
  exact L1.andThen (L2.andThen ((show PySem.W.Looks M h (dataDescriptor? (some a) (some g)) (some (g, a)) from L3.andThen .now).andThen (PySem.W.Looks.tag .now)))
structure ExcKit (K : PySem.W.Frag) (C : Addr) : Prop where
  cls : (PySem.W.clsIn K C).isSome = true
  ga : PySem.W.findIn K (.ref C) "__getattribute__" = some (some (.builtin "BaseException.__getattribute__"))
  no : PySem.W.findIn K (.ref C) "__getattr__" = some none
  at_ : PySem.W.findIn K (.ref C) "__class__" = some (some (.builtin "object.__class__"))
  get : PySem.W.specialIn K (.builtin "object.__class__") "__get__" = some (some (.builtin "getset_descriptor.__get__"))
  tk : PySem.W.takesIn K (.builtin "object.__class__") = some true
  ob : PySem.W.mroIn K C (.type "object") = some true
  be : PySem.W.mroIn K C (.type "BaseException") = some true
section
variable {prog : Program} {w : World} {A : Around} {E : Value → Shared → Prop} {s : Shared} {K : PySem.W.Frag} {x C : Addr}
theorem class_of {R : Result → Shared → Prop} {tp : Value} (X : K.In s.heap) (k : ExcKit K C) (L0 : PySem.W.Looks (model prog w) s.heap (typeOf (.ref x)) (.ref C)) (h : R (.ok (.ret (.ref C))) s) :
    codeAny (model prog w) A (.call (.builtin "getset_descriptor.__get__") ⟨[.builtin "object.__class__", .ref x, tp], []⟩) R s := by
  obtain ⟨hh, g, dr, t, os⟩ := s
  have L1 := PySem.W.looks_mroIn (M := model prog w) X k.ob
  refine codeAny_call_builtin PySem.W.KF.slot_gs.plain PySem.W.KF.entry_gs (PySem.W.KF.slot_gs.check _ _ _ _ _ _ _ _ PySem.W.KF.type_class (PySem.W.KF.args_gs _ _ _) ?_)
  unfold Builtin.«getset_descriptor.__get__» descrGet; rw [PySem.W.dga_obj]; refine wpAny_bind (wpAny_pure ?_)
  unfold descrGetter descrCheckInstance descrNameAndClass isInstance; simp only [PySem.W.KF.owner_class]
  repeat lk
  refine ⟨Code.quiet_builtin _ (by decide +kernel), codeAny_builtin PySem.W.KF.entry_class ?_⟩; unfold Builtin.«object.__class__» shownTypeOf
  repeat lk
  exact h
theorem ga_check {M : Model} {nameV : Value} {Q : Unit → Shared → Prop} (X : K.In s.heap) (k : ExcKit K C) (L0 : PySem.W.Looks M s.heap (typeOf (.ref x)) (.ref C)) (hq : Q () s) : wpAny M A (checkBuiltinCall "BaseException.__getattribute__" ⟨[.ref x, nameV], []⟩) Q E s := by
  have hk : builtinKind "BaseException.__getattribute__" = some .slot := by decide +kernel
  have hsplit : splitId "BaseException.__getattribute__" = some ("BaseException", "__getattribute__") := by decide +kernel
  have L1 := PySem.W.looks_mroIn (M := M) X k.be
  have ha := PySem.F.args_bexc_ga (.ref x) nameV
  simp only [checkBuiltinCall, hk, hsplit]
  obtain ⟨hh, g, dr, t, os⟩ := s
  refine wpAny_bind ?_
  unfold isInstance
  refine wpAny_bind (L0.at (L1.at ?_))
  simp only [Bool.not_true, Bool.false_eq_true, if_false]
  refine wpAny_of_eq ha ?_
  exact hq
theorem exc_class {Q : Option Value → Shared → Prop} (X : K.In s.heap) (k : ExcKit K C) (L0 : PySem.W.Looks (model prog w) s.heap (typeOf (.ref x)) (.ref C)) (h : Q (some (.ref C)) { s with toks := s.toks + 1 }) :
    wpAny (model prog w) A (getAttr? (.ref x) "__class__") Q E s := by
  obtain ⟨hh, g, dr, t, os⟩ := s
  have L1 := PySem.W.looks_findIn (M := model prog w) X k.ga
  have L2 := PySem.W.looks_findIn (M := model prog w) X k.no
  have L3 := find_data (M := model prog w) (x := x) X k.at_ k.get k.tk
  unfold getAttr? getAttrBy? getAttrBy
  refine wpAny_bind (wpAny_mkText (wpAny_bind (wpAny_attempt (wpAny_holding (wpAny_bind (L0.at (wpAny_bind (L1.at ?_))))))))
  show wpAny _ _ (getAttrByItsOwn _ _ _ _ _ _) _ _ _
  unfold getAttrByItsOwn
  refine wpAny_bind ?_
  show wpAny _ _ (typeLookup (.ref C) "__getattr__") _ _ _
  refine L2.at ?_
  refine wpAny_bind (wpAny_attempt (wpAny_holding ?_))
  show wpAny _ _ (boundAndCalled _ _ _) _ _ _
  unfold boundAndCalled
  have FB := PySem.F.attrBase_ValueError
  refine wpAny_bind (wpAny_of_eq (FB.ga.bind (.ref x)) ?_)
  show wpAny _ _ (call (.builtin "BaseException.__getattribute__") [.ref x, .str "__class__" t]) _ _ _
  refine wpAny_call (codeAny_call_builtin FB.ga.plain PySem.F.entry_bexc_ga (ga_check (s := ⟨hh, g, dr, t + 1, os⟩) X k L0 ?_))
  unfold Builtin.«object.__getattribute__»
  refine wpAny_bind (wpAny_of_eq (a := (Value.ref x, [Value.str "__class__" t])) rfl ?_)
  dsimp only
  refine wpAny_bind (wpAny_of_eq (a := Str.ofString "__class__") rfl ?_)
  refine wpAny_bind (L0.at (wpAny_bind (L3.at ?_)))
  dsimp only
  show wpAny _ _ (holding [.builtin "object.__class__"] (call (.builtin "getset_descriptor.__get__") [.builtin "object.__class__", .ref x, .ref C]) >>= ret) _ _ _
  refine wpAny_bind (wpAny_holding (wpAny_call (class_of (s := ⟨hh, g, dr, t + 1, os⟩) X k L0 ?_)))
  refine wpAny_pure ?_
  show wpAny _ _ (handedOut (.ref C)) _ _ _
  refine wpAny_pure ?_
  exact wpAny_pure h
noncomputable def ExcAt (a C : Addr) (h : Heap) : Prop := ∃ o, h.get? a = some o ∧ o.cls = .ref C
theorem kitx_exc (k : ExcKit K C) : PySem.W.KitX K (.ref x) (.ref C) (ExcAt x C) where
  ty := fun _ _ _ p => looks_exc p
  it := fun _ _ X _ => by
    obtain ⟨cdD, hcD⟩ := Option.isSome_iff_exists.mp k.cls
    unfold PySem.W.clsIn at hcD; split at hcD
    · rename_i c' d' cd' sl' ho
      intro A' Q' E' s' kk q; unfold isType loadHead
      exact wpAny_bind (wpAny_loadPart (kk _ _ (X _ _ ho)) (wpAny_pure q))
    · cases hcD
  ne := fun h tp dd its n sl X htp => by
    obtain ⟨cdD, hcD⟩ := Option.isSome_iff_exists.mp k.cls
    refine Bool.eq_false_iff.mpr fun q => ?_
    have e : C = tp := Value.ref.inj (beq_iff_eq.mp q)
    subst e
    unfold PySem.W.clsIn at hcD; split at hcD
    · rename_i c' d' cd' sl' ho
      have z := (X _ _ ho).symm.trans htp; cases z
    · cases hcD
  ca := fun X p h => exc_class X k (looks_exc p) h
end
end Mi
namespace Mi
open PySem L2
open PySem.Spec
variable {K : PySem.W.Frag} {H H' : Hp} {O O' : Addr → Prop} {fp fp' : Nat → List Addr} {B : Hp} {ρ ρ' : En} {σ : L2.St}
theorem rel_any (r : Rel K B ρ σ H O fp) {i : Nat} (x : Option V) (h : ∀ s, ρ[i]? ≠ some (some s)) : Rel K B ρ (σ.set i x) H O fp := by
  refine ⟨by simpa using r.len, fun j s q => ?_, r.non, r.dis, r.nd, r.sub, r.lst, r.new, r.keep⟩
  have hj : i ≠ j := fun z => h s (z ▸ q)
  obtain ⟨v, e, k⟩ := r.slot j s q
  exact ⟨v, by rw [List.getElem?_set_ne hj]; exact e, k⟩
noncomputable abbrev pinned (X : Cx) (a : Addr) (oe : Obj) : Cx := { X with A := X.A.mark (some (.ref a)), calm := false, pn := (a, oe) :: X.pn, xe := fun _ _ => False }
theorem Ok.pinned {X : Cx} (ok : X.Ok) (a : Addr) (oe : Obj) : (pinned X a oe).Ok :=
  ⟨ok.mod, ok.kind, ok.glob, ok.blt, ok.above, ok.inj, ok.has, ok.cab, (fun z => by cases z), ok.frames, ok.stk, ok.exf, ok.bs, ok.bsz, ok.noex, ok.exfs, ok.funs, ok.frf⟩
section
variable {X : Cx} {pins : List (Addr × Obj)} {σ : L2.St} {H H1 H2 : Hp} {s s1 s' : Shared} {D : Ends} {E : XK} {a : Addr} {oe : Obj}
theorem inv_pin (I : Inv X pins σ H s) (h1 : s.heap.get? a = some oe) (h2 : H a = none) (h3 : a ≠ X.env.locals) (h4 : a ∉ X.fs) (h5 : ∀ v, oe.data ≠ .cell v) : Inv (pinned X a oe) pins σ H s :=
  ⟨Ok.pinned I.ok a oe, I.os, I.bare, I.base, I.loc, I.cell, I.free, I.freeC, fun p hp => by
    rcases List.mem_cons.mp hp with rfl | hp
    · exact ⟨h1, h2, h3, h4, h5⟩
    · exact I.pin p hp, I.hok, I.len⟩
theorem inv_unpin (ok : X.Ok) (I : Inv (pinned X a oe) pins σ H s) : Inv X pins σ H s := ⟨ok, I.os, I.bare, I.base, I.loc, I.cell, I.free, I.freeC, fun p hp => I.pin p (List.mem_cons_of_mem _ hp), I.hok, I.len⟩
theorem forget {M : Model} {A : Around} {E : Value → Shared → Prop} {i : Nat} {x : Str} {pos : Pos} {Q : Unit → Shared → Prop} (I : Inv X pins σ H s) (hN : X.N.Nodup) (hi : X.N[i]? = some x) (hk : X.env.scope.names.lookup x = some .local)
    (h : ∀ s', Inv X pins (σ.set i none) H s' → Q () s') : wpAny M A (do bindName X.env x .none; unbindBehindTheSuite X.env x pos) Q E s := by
  obtain ⟨m, hn, hl⟩ := id I.loc
  have hcls : (X.env.scope.kind == .class || (X.env.scope.kind == .module && X.env.locals != X.env.globals)) = false := by rw [I.ok.kind]; rfl
  have cne := I.cne
  have hiσ : i < σ.length := by rw [I.len]; exact (List.getElem?_eq_some_iff.mp hi).1
  refine wpAny_nameGoes_keeps hk hn hcls fun h' v hn' hs => ?_
  obtain ⟨oL, _, _, hoL, _⟩ := id hn
  refine h _ ⟨I.ok, I.os, I.bare, ⟨fun b o e n hb hx => ?_, fun b o e n hb hx => ?_, I.base.free, fun b o e hx => ?_, I.base.tups, I.base.frzs, I.base.tbls⟩, ⟨_, hn', fun j y v' e1 e2 e3 => ?_⟩, fun y c e => ?_, I.free, I.freeC, fun p hp => ?_, fun b ob e => ?_, by simpa using I.len⟩
  · exact (hs.2 b (Nat.ne_of_lt (Nat.lt_of_lt_of_le (Heap.lt_size e) I.ok.above))).trans (I.base.keep b o e n hb hx)
  · obtain ⟨sl, e1⟩ := I.base.slot b o e n hb hx
    exact ⟨sl, (hs.2 b (Nat.ne_of_lt (Nat.lt_of_lt_of_le (Heap.lt_size e) I.ok.above))).trans e1⟩
  · obtain ⟨o', e1⟩ := I.base.there b o e hx
    exact ⟨o', (hs.2 b (Nat.ne_of_lt (Nat.lt_of_lt_of_le (Heap.lt_size e) I.ok.above))).trans e1⟩
  · by_cases hj : j = i
    · subst hj
      rw [List.getElem?_set_self hiσ] at e2
      cases e2
    · rw [List.getElem?_set_ne (Ne.symm hj)] at e2
      obtain ⟨u', r', q⟩ := hl j y v' e1 e2 e3
      refine ⟨u', r', ?_⟩
      rcases q with ⟨k, e⟩ | ⟨k, c, e, z⟩
      · refine .inl ⟨k, ?_⟩
        have : y ≠ x := fun e => hj (nodup_ix hN e1 (e ▸ hi))
        simp [this, e]
      · exact .inr ⟨k, c, e, z.sameBut hs (cne y c e)⟩
  · obtain ⟨w', z⟩ := I.cell y c e
    exact ⟨w', z.sameBut hs (cne y c e)⟩
  · obtain ⟨e, n, ne, nf, d⟩ := I.pin p hp
    exact ⟨(hs.2 p.1 ne).trans e, n, ne, nf, d⟩
  · refine (I.hok b ob e).stay (fun c w' hc q => (hs.2 c ?_).trans q) (fun _ q => q) fun _ _ q => q
    rintro rfl
    have fl := I.free
    rcases hc with rfl | hc
    · rw [fl] at e; cases e
    · rw [fl] at hc; cases hc
noncomputable def gone (ie : Nat) (D : Ends) : Ends := { nx := fun σ H => D.nx (σ.set ie none) H, rt := D.rt, bk := fun σ H => D.bk (σ.set ie none) H, ct := fun σ H => D.ct (σ.set ie none) H }
theorem sp_forget {M : Model} {A : Around} {E : Value → Shared → Prop} {i : Nat} {x : Str} {pos : Pos} {f : Flow} (ok : X.Ok) (hN : X.N.Nodup) (hi : X.N[i]? = some x) (hk : X.env.scope.names.lookup x = some .local) (h : SP (pinned X a oe) pins (gone i D) f s) :
    wpAny M A (do bindName X.env x .none; unbindBehindTheSuite X.env x pos) (fun _ s' => SP X pins D f s') E s := by
  cases f with
  | next => obtain ⟨σ', H', I, q⟩ := h; exact forget (inv_unpin ok I) hN hi hk fun s' I' => ⟨_, H', I', q⟩
  | brk => obtain ⟨σ', H', I, q⟩ := h; exact forget (inv_unpin ok I) hN hi hk fun s' I' => ⟨_, H', I', q⟩
  | cont => obtain ⟨σ', H', I, q⟩ := h; exact forget (inv_unpin ok I) hN hi hk fun s' I' => ⟨_, H', I', q⟩
  | ret u => obtain ⟨v, σ', H', I, r, q⟩ := h; exact forget (inv_unpin ok I) hN hi hk fun s' I' => ⟨v, _, H', I', r, q⟩
theorem caughtAs {e : Value} {xc n : Str} {ie : Nat} {cD : Value} {np hpos : Pos} {b₀ : Stmt} {suite : List Stmt} (I1 : Inv X pins σ H1 s1) (c : CX1 X.prog X.w X.stack H1 s1 E e s') (hst : X.stack = X.env :: X.outer) (hfr : X.env.frame = some X.env.locals)
    (hg : Gl X xc) (hm : X.mg xc = some cD) (hd : (xc == ("__debug__" : Str)) = false) (hN : X.N.Nodup) (hi : X.N[ie]? = some n) (hk : X.env.scope.names.lookup n = some .local)
    (hE : ∀ C H2, E C none H2 → PySem.W.exmOne X.K C cD = some true ∧ ∀ a oe s2, oe.cls = C → Inv (pinned X a oe) pins (σ.set ie (some (.ref a))) H2 s2 → wpAny (model X.prog X.w) (pinned X a oe).A (execs (b₀ :: suite) X.env) (SP (pinned X a oe) pins (gone ie D)) (fun _ _ => False) s2) :
    wpAny (model X.prog X.w) X.A (noteFrame e X.env) (fun _ s₂ => wpAny (model X.prog X.w) X.A (setFlight e none) (fun _ s₃ => wpAny (model X.prog X.w) X.A (handleBy e X.env [.ExceptHandler (some (.Name xc np)) (some n) (b₀ :: suite) hpos]) (SP X pins D) X.xe s₃) X.xe s₂) X.xe s' := by
  obtain ⟨a, C, a0, H2, G, rfl, hos, hb, un, hok, fl, c1, c2, c3, hn, hE0⟩ := c
  obtain ⟨hx, hs⟩ := hE C H2 hE0
  have hfr2 : X.A.frames = some (X.env :: X.outer) := by rw [← hst]; exact I1.ok.frames
  rw [hst] at fl
  refine wpAny_looks_onW hfr2 hfr fl fun h4 held up4 => ?_
  refine wpAny_landsW held fun h5 fl5 up5 => ?_
  have up45 : s'.heap.UpToSlots h5 := up4.trans up5
  have I5 : ∀ tk, Inv X pins σ H2 { s' with heap := h5, toks := tk } := fun tk => inv_land I1 hos hb un hok c1 c2 c3 fl.1 fl5.1 up45 tk
  have I5m := inv_mark (I5 s'.toks) a
  refine wpAny_handleBy_cons (codeAny_handlers_test (ld_glob I5m hg hm ?_ hd)) (by intro q; cases q)
  refine PySem.W.exm_one I5m.kIn (looks_exc fl5.there) hx _ _ _ _ (fun b o q => q) ?_
  rw [if_pos rfl]
  refine codeAny_handlers_suite_as (PyProof.Rows.lands_againW fl5 fun h6 fl6 up6 => ?_)
  have I6 : Inv X pins σ H2 { s' with heap := h6, toks := s'.toks } := inv_land I1 hos hb un hok c1 c2 c3 fl.1 fl6.1 (up45.trans up6) s'.toks
  obtain ⟨_, _, ff, oe, vs, _, _, _, q1, q2, q3, _⟩ := id fl6
  have ne : a ≠ X.env.locals := fun z => by
    obtain ⟨m, ⟨o', es, ep, ho', hd', _⟩, _⟩ := I6.loc
    have ho2 : h6.get? X.env.locals = some o' := ho'
    rw [← z, q1] at ho2; cases ho2; rw [q3] at hd'; cases hd'
  have nf : a ∉ X.fs := fun z => by
    obtain ⟨_, o', ho', hd'⟩ := I6.funs.mem z
    have ho2 : h6.get? a = some o' := ho'
    rw [q1] at ho2; cases ho2; exact hd' _ q3
  have I7 := inv_pin (oe := oe) I6 q1 hn ne nf fun v z => by rw [q3] at z; cases z
  refine store_ok (X := pinned X a oe) (v := .ref a) I7 hN hi (.inl hk) rfl (fun s2 I8 => ?_) (.inr hk)
  exact wpAny_mono (hs a oe s2 q2.1 I8) (fun f s2 h => sp_forget I6.ok hN hi hk h) fun _ _ z => z.elim
end
section
variable {X : Cx} {ie : Nat} {C : Addr} {e : Expr} {es : List Expr} {b : Bool} {bs : List Bool} {n x : Str} {p p1 p2 pos : Pos}
noncomputable def tIsx (ie : Nat) (a : Addr) (b : Bool) : TE := fun σ H Q => σ[ie]? = some (some (.ref a)) ∧ Q (.bl b) H
noncomputable def IsX (X : Cx) (ie : Nat) (C : Addr) (e : Expr) (b : Bool) : Prop := ∀ a oe, oe.cls = Value.ref C → PE (pinned X a oe) e (tIsx ie a b)
noncomputable def tIsxs (ie : Nat) (a : Addr) (bs : List Bool) : TA := fun σ H Q => σ[ie]? = some (some (.ref a)) ∧ Q (bs.map .bl) H
noncomputable def IsXs (X : Cx) (ie : Nat) (C : Addr) (es : List Expr) (bs : List Bool) : Prop := ∀ a oe, oe.cls = Value.ref C → PA (pinned X a oe) es (tIsxs ie a bs)
noncomputable def rIsx (a : Addr) (cv : V) (b : Bool) : List V → Hp → VK → Prop := fun xs H Q => xs = [.ref a, cv] ∧ Q (.bl b) H
theorem call_isx {a : Addr} {oe : Obj} {c : Value} {cv : V} (k : ExcKit X.K C) (q : PySem.W.kitOne X.K (.ref C) c = some b) (ho : oe.cls = .ref C) (rc : ∀ w, RelV cv w → w = c) : CallR (pinned X a oe) (.builtin "isinstance") (rIsx a cv b) := fun pins s σ H xs us Q I r h => by
  obtain ⟨rfl, hq⟩ := h
  obtain ⟨u, w', rfl, r1, r2⟩ := vals2 r
  cases rc _ r2
  have r1 : u = Value.ref a := r1
  subst r1
  exact PySem.W.kia_one (kitx_exc k) I.kIn ⟨oe, (I.pin (a, oe) (by simp)).1, ho⟩ q (fun z => nomatch z) fun tk => ⟨.bl b, H, I.tok tk, rfl, hq⟩
theorem isx_own {D : Addr} (k : ExcKit X.K C) (hg : Gl X "isinstance") (hm : X.mg "isinstance" = none) (hi : X.N[ie]? = some n) (hk : X.env.scope.names.lookup n = some .local) (hgx : Gl X x) (hmx : X.mg x = some (.ref D)) (q : PySem.W.kitOne X.K (.ref C) (.ref D) = some b)
    (hdn : (n == ("__debug__" : Str)) = false := by decide) (hcn : (n == ("__classdict__" : Str)) = false := by decide) (hdx : (x == ("__debug__" : Str)) = false := by decide)
    (he : starEach [.Name n p1, .Name x p2] X.env = (false, eval (.Name n p1) X.env) :: starEach [.Name x p2] X.env := by rfl) (hpl : (backTo pos (starEach [.Name x p2] X.env)).any (·.1) = false := by rfl)
    (he2 : starEach [.Name x p2] X.env = (false, eval (.Name x p2) X.env) :: starEach [] X.env := by rfl) :
    IsX X ie C (.Call (.Name "isinstance" p) [.Name n p1, .Name x p2] [] pos) b := fun a oe ho =>
  (pe_callB (X := pinned X a oe) (call_isx (cv := .ref D) k q ho fun w z => z) hg hm PyProof.Rows.boot_isinstance (pa_cons (pe_var hi (.inl hk) hdn hcn) (pa_cons (pe_glob (v := .ref D) hgx hmx rfl hdx) pa_nil he2) he) (by decide) (by decide) he hpl).imp
    fun σ H Q h => ⟨.ref a, h.1, rfl, h.2⟩
theorem isx_blt {T : String} (k : ExcKit X.K C) (hg : Gl X "isinstance") (hm : X.mg "isinstance" = none) (hi : X.N[ie]? = some n) (hk : X.env.scope.names.lookup n = some .local) (hgx : Gl X x) (hmx : X.mg x = none) (hbx : bootBuiltins x = some (.type T)) (q : PySem.W.kitOne X.K (.ref C) (.type T) = some b)
    (hnx : x ≠ "__name__" := by decide) (hdn : (n == ("__debug__" : Str)) = false := by decide) (hcn : (n == ("__classdict__" : Str)) = false := by decide) (hdx : (x == ("__debug__" : Str)) = false := by decide)
    (he : starEach [.Name n p1, .Name x p2] X.env = (false, eval (.Name n p1) X.env) :: starEach [.Name x p2] X.env := by rfl) (hpl : (backTo pos (starEach [.Name x p2] X.env)).any (·.1) = false := by rfl)
    (he2 : starEach [.Name x p2] X.env = (false, eval (.Name x p2) X.env) :: starEach [] X.env := by rfl) :
    IsX X ie C (.Call (.Name "isinstance" p) [.Name n p1, .Name x p2] [] pos) b := fun a oe ho =>
  (pe_callB (X := pinned X a oe) (call_isx (cv := .ty T) k q ho fun w z => z) hg hm PyProof.Rows.boot_isinstance (pa_cons (pe_var hi (.inl hk) hdn hcn) (pa_cons (pe_bltn (v := .ty T) hgx hmx hbx rfl hnx hdx) pa_nil he2) he) (by decide) (by decide) he hpl).imp
    fun σ H Q h => ⟨.ref a, h.1, rfl, h.2⟩
theorem isxs_nil : IsXs X ie C [] [] := fun a oe ho => PA.imp pa_nil fun σ H Q h => h.2
theorem isxs_cons (h : IsX X ie C e b) (hr : IsXs X ie C es bs) (hs : starEach (e :: es) X.env = (false, eval e X.env) :: starEach es X.env := by rfl) : IsXs X ie C (e :: es) (b :: bs) := fun a oe ho =>
  (pa_cons (X := pinned X a oe) (h a oe ho) (hr a oe ho) hs).imp fun σ H Q h => ⟨h.1, h.1, h.2⟩
theorem isl_bls : ∀ bs : List Bool, IsL K H (bs.map .bl) (bs.map .bl)
  | [] => IsL.nil
  | b :: bs => IsL.cons rfl (isl_bls bs)
end
noncomputable def isNo (ρ : En) (i : Nat) : Bool := match ρ[i]? with
  | some none => true
  | _ => false
theorem isNo_of {ρ : En} {i : Nat} (h : isNo ρ i = true) : ρ[i]? = some none := by
  unfold isNo at h
  split at h
  · assumption
  · cases h
noncomputable def tb0 : Str → Option (List Bool) := fun _ => none
noncomputable def tbC (c1 : Str) (bs : List Bool) (r : Str → Option (List Bool)) : Str → Option (List Bool) := fun c => if c == c1 then some bs else r c
theorem boot_ValueError : bootBuiltins "ValueError" = some (.type "ValueError") := by decide +kernel
end Mi
namespace Mi
open PySem L2
open PySem.Spec
variable {K : PySem.W.Frag} {H H' : Hp} {O O' : Addr → Prop} {fp fp' : Nat → List Addr} {B : Hp} {ρ ρ' : En} {σ : L2.St}
noncomputable def IsFn (K : PySem.W.Frag) (x : Str) (v : Value) : Prop := ∃ a, v = .ref a ∧ PySem.W.nsIn K mainGlobals x = some (some (.ref a))
structure TabK (K : PySem.W.Frag) (d : Addr) (T : List (Str × Str)) : Prop where
  ex : ∃ o es ep, K.lookup d = some o ∧ o.ExactDict ∧ o.data = .dict es ep ∧ PyProof.Rows.KTD.Rows (IsFn K) es.toList T
end Mi
namespace Mi
open PySem L2
open PySem.Spec
variable {K : PySem.W.Frag} {H H' : Hp} {O O' : Addr → Prop} {fp fp' : Nat → List Addr} {B : Hp} {ρ ρ' : En} {σ : L2.St}
section
variable {X : Cx} {a b c : Expr} {f g h : M R} {pos p : Pos} {x : Str}
theorem q_cst {n : Int} {t : Tok} (hg : Gl X x) (hm : X.mg x = some (.int n t)) (hd : (x == ("__debug__" : Str)) = false := by decide) : QE X (.Name x p) (mC (.int n)) := q_c (pe_glob (v := .int n) hg hm ⟨t, rfl⟩ hd) fun _ => rfl
noncomputable def intR : R → Option Int
  | .of (.val (.int i)) => some i
  | _ => none
theorem intR_of {x : R} {i : Int} (h : intR x = some i) : x = .of (.val (.int i)) := by
  unfold intR at h
  split at h
  · cases h; rfl
  · cases h
noncomputable def mChn (f g h : M R) : M R := fun ρ => (f ρ).bind fun x => (g x.2).bind fun y => (intR x.1).bind fun i => (intR y.1).bind fun j => if i ≤ j then (h y.2).bind fun z => (intR z.1).bind fun k => some (.of (.val (.bl (decide (j ≤ k)))), z.2)
  else some (.of (.val (.bl false)), y.2)
theorem q_chn (ha : QE X a f) (hb : QE X b g) (hc : QE X c h) (hm : lastMarks [.LtE, .LtE] [b, c] = false := by with_unfolding_all rfl) : QE X (.Compare a [.LtE, .LtE] [b, c] pos) (mChn f g h) :=
  (pe_chain op_le op_le ha hb hc hm).imp fun σ H Q ⟨B, ρ, O, fp, r, ρ', R, hf, k⟩ => by
    obtain ⟨⟨x, ρ1⟩, h1, hf1⟩ := bind_some hf
    obtain ⟨⟨y, ρ2⟩, h2, hf2⟩ := bind_some hf1
    obtain ⟨i, g1, hf3⟩ := bind_some hf2
    obtain ⟨j, g2, hf4⟩ := bind_some hf3
    clear hf hf1 hf2 hf3
    cases intR_of g1
    cases intR_of g2
    refine ⟨B, ρ, O, fp, _, ρ1, R, h1, fun v H1 O1 fp1 R1 k1 F1 => ⟨B, ρ1, O1, fp1, _, ρ2, R1, h2, fun u H2 O2 fp2 R2 k2 F2 => ?_⟩⟩
    obtain ⟨_, ⟨e1, _⟩, _⟩ := k1
    obtain ⟨_, ⟨e2, _⟩, _⟩ := k2
    have e1 : v = .int i := e1
    have e2 : u = .int j := e2
    refine ⟨i, j, e1, e2, decide (i ≤ j), rfl, ?_⟩
    by_cases z : i ≤ j
    · rw [if_pos z] at hf4
      rw [if_pos (decide_eq_true z)]
      obtain ⟨⟨w, ρ3⟩, h3, hf5⟩ := bind_some hf4
      obtain ⟨m, g3, hf6⟩ := bind_some hf5
      clear hf4 hf5
      cases intR_of g3
      cases hf6
      refine ⟨B, ρ2, O2, fp2, _, ρ3, R2, h3, fun w' H3 O3 fp3 R3 k3 F3 => ?_⟩
      obtain ⟨_, ⟨e3, _⟩, _⟩ := k3
      have e3 : w' = .int m := e3
      exact ⟨j, m, e2, e3, k _ H3 O3 fp3 R3 ⟨[], ⟨rfl, rfl⟩, List.nodup_nil, fun a z => by simp at z⟩ (F1.trans (F2.trans F3))⟩
    · rw [if_neg z] at hf4
      cases hf4
      rw [if_neg (by simpa using z)]
      exact k _ H2 O2 fp2 R2 ⟨[], ⟨rfl, rfl⟩, List.nodup_nil, fun a z => by simp at z⟩ (F1.trans F2)
end
noncomputable def rCatQ (K : PySem.W.Frag) : R2 := fun x y H Q => ∃ l b xs zs, x = .ref l ∧ y = .ref b ∧ SqL K H l xs ∧ SqL K H b zs ∧ xs.length + zs.length ≤ sizeLine ∧ ∀ p, H p = none → Q (.ref p) (upd H p (.lst (xs ++ zs)))
section
variable {X : Cx} {e a b c : Expr} {f g : M R} {pos p p2 : Pos} {i : Nat} {my : En → Option Int}
theorem op_catQ : OpR X (binaryOp .Add) (rCatQ X.K) := by
  intro pins s σ H x y v u Q I rx ry h
  obtain ⟨l, b, xs, zs, rfl, rfl, hx, hz, hn, q⟩ := h
  cases rx
  cases ry
  obtain ⟨its, r, ⟨⟨cl, dd, dt, sl⟩, n, e, c1, c2, c3⟩, z1⟩ := I.list hx
  obtain ⟨its2, r2, ⟨⟨cl2, dd2, dt2, sl2⟩, n2, e2, d1, d2, d3⟩, z2⟩ := I.list hz
  simp only at c1 c2 c3 d1 d2 d3
  subst c1 c3 d1 d3
  have l1 := r.length
  have l2 := r2.length
  refine concat_meets ⟨_, e, rfl⟩ ⟨_, e2, rfl⟩ noFill_list_add seq_list_add PySem.F.slot_list_add PySem.F.entry_list_add (PySem.F.args_list_add_2 _ _) (PyProof.Rows.list_addW l b its.toArray its2.toArray n n2 dd dd2 sl sl2 (by rw [List.size_toArray, List.size_toArray]; omega)) ⟨e, e2, ?_⟩
  have ea : its.toArray ++ its2.toArray = (its ++ its2).toArray := by simp
  rw [ea]
  exact ⟨.ref _, _, I.lnew (t' := s.toks) (r.append r2) (by rw [List.length_append]; omega), rfl, q _ I.fresh⟩
noncomputable def gCatL : List Slot → Option Slot := fun ss => match ss with
  | [.fz xs, .fz ys] => if xs.length + ys.length < big then some (.own (xs ++ ys)) else none
  | _ => none
theorem sr_catL : SR K gCatL (r2 (rCatQ K)) := fun H ss vs s Q hr h k => by
  unfold gCatL at h
  split at h
  · rename_i xs ys
    split at h
    · rename_i hz
      cases h
      obtain ⟨v1, u1, rfl, ⟨⟨a, ws, rfl, q, l⟩, _⟩, v2, u2, rfl, ⟨⟨b, zs, rfl, q', l'⟩, _⟩, hu⟩ := hr
      have hu : u2 = [] := hu
      subst hu
      refine ⟨_, _, rfl, a, b, ws, zs, rfl, rfl, q.sq, q'.sq, ?_, fun p hp => ?_⟩
      · rw [l.length, l'.length]
        exact Nat.le_of_lt (big_line hz)
      · have e := same_new hp (.lst (ws ++ zs))
        exact k p _ _ e hp upd_same ((l.append l').tk (Tk.same e))
    · cases h
  · cases h
theorem q_catL (ha : QE X a f) (hb : QE X b g) : QE X (.BinOp a .Add b pos) (mOpF gCatL (mCons f (mCons g mNil))) := q_bin op_catQ sr_catL ha hb
end
theorem OwL.take : ∀ {dss : List (List D)} {qs : List Addr} (n : Nat), OwL K H dss qs → OwL K H (dss.take n) (qs.take n)
  | _, _, 0, h => by simp [OwL]
  | [], qs, n + 1, h => by have h' : _ = [] := h; subst h'; exact rfl
  | ds :: dss, qs, n + 1, h => by
    obtain ⟨q, us, r, rfl, h1, h2, h3⟩ := h
    exact ⟨q, us, _, rfl, h1, h2, OwL.take n h3⟩
noncomputable def newR : R → Option Slot
  | .of s => fresh s
  | _ => none
theorem newR_of {r : R} {s : Slot} (h : newR r = some s) : r = .of s := by
  cases r with
  | of t => obtain ⟨rfl, _⟩ := fresh_of h; rfl
  | bor i => cases h
noncomputable def mPick (m : M (List R)) (f : M R) : M R := fun ρ => (m ρ).bind fun x => if x.1.length < big then (f x.2).bind fun y => (intR y.1).bind fun k => (atI x.1 k).bind fun r => (newR r).bind fun s => some (.of s, y.2) else none
theorem ResL.get {Z : Addr → Prop} : ∀ {rs : List R} {vs : List V} {j : Nat} {r : R}, ResL K H O fp σ Z rs vs → rs[j]? = some r → ∃ v, vs[j]? = some v ∧ ResOk K H O fp σ Z r v
  | [], _, _, _, _, e => by simp at e
  | _ :: _, _, 0, _, h, e => by
    obtain ⟨v, us, rfl, h1, h2⟩ := h
    simp at e; subst e
    exact ⟨v, rfl, h1⟩
  | _ :: _, _, j + 1, _, h, e => by
    obtain ⟨v, us, rfl, h1, h2⟩ := h
    obtain ⟨w, g1, g2⟩ := ResL.get (j := j) h2 (by simpa using e)
    exact ⟨w, by simpa using g1, g2⟩
theorem ResL.len {Z : Addr → Prop} : ∀ {rs : List R} {vs : List V}, ResL K H O fp σ Z rs vs → vs.length = rs.length
  | [], _, h => by have h' : _ = [] := h; subst h'; rfl
  | _ :: _, _, h => by
    obtain ⟨v, us, rfl, h1, h2⟩ := h
    rw [List.length_cons, List.length_cons, ResL.len h2]
section
variable {X : Cx} {e a b c : Expr} {es : List Expr} {f g : M R} {m : M (List R)} {pos p p2 : Pos}
theorem q_pick (ha : QA X es m) (hb : QE X b f) (hs : PlainIx b) : QE X (.Subscript (.List es p2) b pos) (mPick m f) :=
  (pe_ix ix_list (pe_lst ha) hb hs).imp fun σ H Q ⟨B, ρ, O, fp, x, ρ', R, hf, k⟩ => by
    obtain ⟨⟨rs, ρ1⟩, q1, hf1⟩ := bind_some hf
    dsimp only at hf1
    split at hf1
    · rename_i hz
      obtain ⟨⟨y, ρ2⟩, q2, hf2⟩ := bind_some hf1
      obtain ⟨kk, q3, hf3⟩ := bind_some hf2
      obtain ⟨r, q4, hf4⟩ := bind_some hf3
      obtain ⟨s, q5, hf5⟩ := bind_some hf4
      clear hf hf1 hf2 hf3 hf4
      cases intR_of q3
      cases newR_of q5
      cases hf5
      refine ⟨B, ρ, O, fp, rs, ρ1, R, q1, fun vs H1 O1 fp1 R1 k1 F1 => ⟨by rw [k1.len]; exact Nat.le_of_lt (big_line hz), fun q hq => ?_⟩⟩
      have sm := same_new hq (.lst vs)
      refine ⟨B, ρ1, O1, fp1, _, ρ2, R1.grow sm, q2, fun u H2 O2 fp2 R2 k2 F2 => ?_⟩
      obtain ⟨_, ⟨eu, _⟩, _⟩ := k2
      have eu : u = .int kk := eu
      have nq : ¬ O1 q := fun z => by
        obtain ⟨ws, e⟩ := R1.lst q z
        rw [hq] at e; cases e
      have hq2 := F2.keep q _ upd_same nq
      obtain ⟨j, g1, g2⟩ := bind_some q4
      have F12 := (Fr.grow R1 sm).trans F2
      obtain ⟨v, g3, g4⟩ := k1.get g2
      refine ⟨q, vs, kk, v, rfl, eu, SqL.of hq2, ?_, k v H2 O2 fp2 R2 (g4.fr F12 R1.lst) (F1.trans F12)⟩
      unfold atI
      rw [k1.len, g1]
      exact g3
    · cases hf1
end
end Mi
namespace Mi
open PySem L2
open PySem.Spec
variable {K : PySem.W.Frag} {H H' : Hp} {O O' : Addr → Prop} {fp fp' : Nat → List Addr} {B : Hp} {ρ ρ' : En} {σ : L2.St}
theorem one_of {r : V → Hp → VK → Prop} {f : M R} {σ : L2.St} {H : Hp} {Q : VK} (h : tQL K (mCons f mNil) σ H fun vs H1 => r1 r vs H1 Q) : tQ K f σ H fun v H1 => r v H1 Q := by
  obtain ⟨B, ρ, O, fp, rs, ρ', R, hq, k⟩ := h
  obtain ⟨⟨x, ρ1⟩, h1, hq⟩ := bind_some hq
  cases hq
  refine ⟨B, ρ, O, fp, x, ρ1, R, h1, fun v H1 O1 fp1 R1 k1 F1 => ?_⟩
  obtain ⟨x', e, q⟩ := k [v] H1 O1 fp1 R1 ⟨v, [], rfl, k1, rfl⟩ F1
  cases e
  exact q
section
variable {X : Cx} {a b e o : Expr} {f g : M R} {pos p apos cpos : Pos} {sep : Str} {j : Nat}
noncomputable def gStrI : List Slot → Option Slot := fun ss => match ss with
  | [.val (.int i)] => if i.natAbs < 2 ^ 64 then some (.val (.str (toString i))) else none
  | _ => none
theorem log_small {n : Nat} (h : n < 2 ^ 64) : n.log2 < 1920 := by
  by_cases z : n = 0
  · subst z
    decide
  · exact (Nat.log2_lt z).mpr (Nat.lt_trans h (Nat.pow_lt_pow_right (by decide) (by decide)))
theorem sr_strI : SR K gStrI (fun xs H Q => ∃ i : Int, xs = [.int i] ∧ i.natAbs.log2 < 1920 ∧ Q (.str (toString i)) H) := fun H ss vs s Q hr h k => by
  unfold gStrI at h
  split at h
  · rename_i i
    split at h
    · rename_i hz
      cases h
      obtain ⟨v, us, rfl, h1, hu⟩ := hr
      have hu : us = [] := hu
      have h1 : v = .int i := h1.1
      subst hu h1
      exact ⟨i, rfl, log_small hz, k _ H (Same.refl H) rfl⟩
    · cases h
  · cases h
theorem q_strI {x : Str} (hg : Gl X "str") (hm : X.mg "str" = none) (ha : QA X [e] (mCons f mNil)) (he : starEach [e] X.env = [(false, eval e X.env)] := by rfl) : QE X (.Call (.Name "str" p) [e] [] pos) (mOpF gStrI (mCons f mNil)) :=
  q_callTy call_str_int sr_strI hg hm PyProof.Rows.boot_str ha (by decide) (by decide) he rfl
noncomputable def gCatS : List Slot → Option Slot := fun ss => match ss with
  | [.val (.str x), .val (.str y)] => if x.length + y.length < big then some (.val (.str (x ++ y))) else none
  | _ => none
theorem sr_catS : SR K gCatS (r2 (fun x y H Q => ∃ i j, x = .str i ∧ y = .str j ∧ i.length + j.length ≤ sizeLine ∧ Q (.str (i ++ j)) H)) := fun H ss vs s Q hr h k => by
  unfold gCatS at h
  split at h
  · rename_i x y
    split at h
    · rename_i hz
      cases h
      obtain ⟨u, v, rfl, h1, h2⟩ := rd2 hr
      exact ⟨u, v, rfl, x, y, h1, h2, Nat.le_of_lt (big_line hz), k _ H (Same.refl H) rfl⟩
    · cases h
  · cases h
theorem q_catS (ha : QE X a f) (hb : QE X b g) : QE X (.BinOp a .Add b pos) (mOpF gCatS (mCons f (mCons g mNil))) := q_bin op_add_str sr_catS ha hb
noncomputable def gIxS : List Slot → Option Slot := fun ss => match ss with
  | [.val (.str z), .val (.int i)] => if z.length < big then (atI z.cps.toList i).bind fun c => some (.val (.str ⟨#[c]⟩)) else none
  | _ => none
theorem sr_ixS : SR K gIxS (r2 rIxS) := fun H ss vs s Q hr h k => by
  unfold gIxS at h
  split at h
  · rename_i z i
    split at h
    · rename_i hz
      obtain ⟨c, h1, h⟩ := bind_some h
      cases h
      obtain ⟨u, v, rfl, e1, e2⟩ := rd2 hr
      exact ⟨u, v, rfl, z, i, c, e1, e2, Nat.le_of_lt (big_line hz), h1, k _ H (Same.refl H) rfl⟩
    · cases h
  · cases h
theorem q_ixS (ha : QE X a f) (hb : QE X b g) (hs : PlainIx b) : QE X (.Subscript a b pos) (mOpF gIxS (mCons f (mCons g mNil))) := q_ix ix_str sr_ixS ha hb hs
noncomputable def strsOf : List D → Option (List Str)
  | [] => some []
  | .str x :: r => (strsOf r).bind fun ys => some (x :: ys)
  | _ => none
theorem strsOf_eq : ∀ {ds : List D} {ys : List Str}, strsOf ds = some ys → ds = ys.map D.str
  | [], ys, h => by cases h; rfl
  | .str x :: r, ys, h => by
    obtain ⟨zs, h1, h⟩ := bind_some h
    cases h
    rw [strsOf_eq h1]; rfl
  | .non :: _, _, h => by cases h
  | .bl _ :: _, _, h => by cases h
  | .int _ :: _, _, h => by cases h
  | .tup _ :: _, _, h => by cases h
  | .fn _ :: _, _, h => by cases h
  | .dct _ :: _, _, h => by cases h
theorem strsOf_map (ys : List Str) : strsOf (ys.map D.str) = some ys := by
  induction ys with
  | nil => rfl
  | cons y r ih =>
    show (strsOf (r.map D.str)).bind _ = _
    rw [ih]
    rfl
theorem isl_strs : ∀ {ys : List Str} {vs : List V}, IsL K H (ys.map D.str) vs → vs = ys.map V.str
  | [], _, h => h
  | y :: ys, vs, h => by
    obtain ⟨v, r, rfl, h1, h2⟩ := h
    have h1 : v = .str y := h1
    rw [h1, isl_strs h2]
    rfl
theorem strs_are : ∀ {ys : List Str} {us : List Value}, Vals (ys.map V.str) us → PyProof.Rows.StrsAre us ys
  | [], _, h => by cases h; exact .nil
  | y :: ys, _, h => by
    cases h with
    | cons r1 r2 =>
      obtain ⟨t, rfl⟩ := r1
      exact .cons y t (strs_are r2)
noncomputable def rJoin (K : PySem.W.Frag) : V → List V → Hp → VK → Prop := fun x xs H Q => ∃ sep q ys, x = .str sep ∧ xs = [.ref q] ∧ SqL K H q (ys.map V.str) ∧ sep.length ≤ 16 ∧ (ys.map (·.length)).sum + ys.length ≤ 1048576 ∧ Q (.str (Txt.join sep ys)) H
theorem mt_join : MtR X "str.join" (rJoin X.K) := by
  intro pins s σ H x xs v us Q I rx rs h
  obtain ⟨sep, q, ys, rfl, rfl, hq, h1, h2, hQ⟩ := h
  obtain ⟨t, rfl⟩ := rx
  obtain ⟨u, rfl, ru⟩ := rs.one
  have ru : u = Value.ref q := ru
  subst ru
  obtain ⟨its, r, pl, _⟩ := I.list hq
  exact PyProof.Rows.join_listW pl.isList (by simpa using strs_are r) h1 h2 fun t' k => ⟨.str _, H, I.tok k, ⟨t', rfl⟩, hQ⟩
noncomputable def gJoin (sep : Str) : List Slot → Option Slot := fun ss => match ss with
  | [.fz ds] => (strsOf ds).bind fun ys => if (ys.map (·.length)).sum + ys.length ≤ 1048576 ∧ sep.length ≤ 16 then some (.val (.str (Txt.join sep ys))) else none
  | _ => none
theorem sr_join : SR K (gJoin sep) (r1 (fun x H Q => rJoin K (.str sep) [x] H Q)) := fun H ss vs s Q hr h k => by
  unfold gJoin at h
  split at h
  · rename_i ds
    obtain ⟨ys, h1, h⟩ := bind_some h
    split at h
    · rename_i hz
      cases h
      cases strsOf_eq h1
      obtain ⟨v, us, rfl, ⟨⟨a, ws, rfl, sq, l⟩, _⟩, hu⟩ := hr
      have hu : us = [] := hu
      subst hu
      cases isl_strs l
      exact ⟨_, rfl, sep, a, ys, rfl, rfl, sq.sq, hz.2, hz.1, k _ H (Same.refl H) rfl⟩
    · cases h
  · cases h
theorem q_join (ha : QE X e f) (hbase : attributeBase (.Constant (.str sep) j p) "join" X.env (eval (.Constant (.str sep) j p) X.env) = eval (.Constant (.str sep) j p) X.env := by rfl)
    (hfew : ((backTo cpos (starEach [e] X.env)).all (fun x => !x.1) && (backToKw cpos (keywordEach [] X.env)).all (fun x => x.1.isSome) && decide ([e].length + ([] : List Keyword).length + (if ([] : List Keyword).isEmpty then 0 else 1) < 30)) = true := by rfl)
    (hline : (apos.endLine == cpos.line) = true := by rfl) (hs : starEach [e] X.env = (false, eval e X.env) :: starEach [] X.env := by rfl) (hplain : (backTo cpos (starEach [] X.env)).any (·.1) = false := by rfl) :
    QE X (.Call (.Attribute (.Constant (.str sep) j p) "join" apos) [e] [] cpos) (mOpF (gJoin sep) (mCons f mNil)) :=
  q_opN sr_join ((pe_bm PySem.F.plainAttrs_str PySem.F.slot_str_join PySem.F.type_str_join mt_join pe_str (pa_cons ha pa_nil hs) hbase hfew hline hs hplain).imp fun σ H Q h => ⟨rfl, one_of (r := fun x H Q => rJoin X.K (.str sep) [x] H Q) h⟩)
end
section
variable {X : Cx} {a b e o tg : Expr} {f g : M R} {pos p apos cpos : Pos} {sep : Str} {j : Nat}
theorem split_at {prog : Program} {w : World} {A : Around} {E : Value → Shared → Prop} {s : Shared} {x y : Str} {t u : Tok} {Q : Value → Shared → Prop} (hy : (y.length == 0) = false) (hsz : x.length + 2 ≤ sizeLine)
    (h : ∀ l k, l.map (·.1) = Txt.split x y → Q (.ref s.heap.objs.size) { s with heap := s.heap.push { cls := .type "list", data := .seq (strValues l).toArray }, toks := k }) : wpAny (model prog w) A (call (.builtin "str.split") [.str x t, .str y u]) Q E s := by
  have hn : (Builtin.Str.partsBetween x (Builtin.Str.occurrences x y 0 x.length (x.length + 1)) y.length).length ≤ sizeLine := by
    have e1 := StrLaws.occ_length_le x y 0 x.length (x.length + 1)
    rw [length_partsBetween]
    omega
  by_cases h1 : (decide (x.length < y.length) || decide (Builtin.Str.strKind x < Builtin.Str.strKind y)) = true
  · exact call_meets F.slot_str_split (typeIs_str _ _ _) F.entry_str_split (F.args_str_split_2 _ _) (meets_str_split_cannot_occur x y t u h1) (h [(x, t)] s.toks (if_pos h1).symm)
  · have h1' : (decide (x.length < y.length) || decide (Builtin.Str.strKind x < Builtin.Str.strKind y)) = false := by simpa using h1
    by_cases hf : (Builtin.Str.occurrences x y 0 x.length (x.length + 1)).isEmpty = true
    · exact call_meets F.slot_str_split (typeIs_str _ _ _) F.entry_str_split (F.args_str_split_2 _ _) (meets_str_split_not_found x y t u h1' hy hf) (h [(x, t)] s.toks ((if_neg h1).trans (if_pos hf)).symm)
    · have hf' : (Builtin.Str.occurrences x y 0 x.length (x.length + 1)).isEmpty = false := by simpa using hf
      refine call_meets F.slot_str_split (typeIs_str _ _ _) F.entry_str_split (F.args_str_split_2 _ _) (meets_str_split_sep x y t u h1' hy hf' (by omega) hn) ?_
      have q := h (numbered s.toks (Builtin.Str.partsBetween x (Builtin.Str.occurrences x y 0 x.length (x.length + 1)) y.length)) (s.toks + (Builtin.Str.partsBetween x (Builtin.Str.occurrences x y 0 x.length (x.length + 1)) y.length).length) ((numbered_texts _ _).trans ((if_neg h1).trans (if_neg hf)).symm)
      rw [← strsFrom_eq] at q
      exact q
theorem vals_strs : ∀ l : List (Str × Tok), Vals ((l.map (·.1)).map V.str) (strValues l)
  | [] => .nil
  | p :: r => .cons ⟨p.2, rfl⟩ (vals_strs r)
noncomputable def rSplit : V → List V → Hp → VK → Prop := fun x xs H Q => ∃ a b, x = .str a ∧ xs = [.str b] ∧ (b.length == 0) = false ∧ a.length + 2 ≤ sizeLine ∧ (Txt.split a b).length ≤ sizeLine ∧ ∀ q, H q = none → Q (.ref q) (upd H q (.lst ((Txt.split a b).map V.str)))
theorem mt_split : MtR X "str.split" rSplit := by
  intro pins s σ H x xs v us Q I rx rs h
  obtain ⟨a, b, rfl, rfl, h1, h2, h3, hQ⟩ := h
  obtain ⟨t, rfl⟩ := rx
  obtain ⟨u, rfl, t2, rfl⟩ := rs.one
  refine split_at h1 h2 fun l k e => ?_
  have hv := vals_strs l
  rw [e] at hv
  exact ⟨.ref _, _, I.lnew (t' := k) hv (by rw [List.length_map]; exact h3), rfl, hQ _ I.fresh⟩
noncomputable def gSplit (sep : Str) : List Slot → Option Slot := fun ss => match ss with
  | [.val (.str x)] => if x.length + 2 < big ∧ (Txt.split x sep).length < big ∧ (sep.length == 0) = false then some (.own ((Txt.split x sep).map D.str)) else none
  | _ => none
theorem isl_str : ∀ ys : List Str, IsL K H (ys.map D.str) (ys.map V.str)
  | [] => IsL.nil
  | y :: ys => IsL.cons rfl (isl_str ys)
theorem sr_split : SR K (gSplit sep) (r1 (fun x H Q => rSplit x [.str sep] H Q)) := fun H ss vs s Q hr h k => by
  unfold gSplit at h
  split at h
  · rename_i x
    split at h
    · rename_i hz
      cases h
      obtain ⟨v, us, rfl, h1, hu⟩ := hr
      have hu : us = [] := hu
      have h1 : v = .str x := h1.1
      subst hu h1
      refine ⟨_, rfl, x, sep, rfl, rfl, hz.2.2, Nat.le_of_lt (big_line hz.1), Nat.le_of_lt (big_line hz.2.1), fun q hq => ?_⟩
      exact k q _ _ (same_new hq _) hq upd_same (isl_str _)
    · cases h
  · cases h
theorem q_split (ho : QE X o f) (hbase : attributeBase o "split" X.env (eval o X.env) = eval o X.env := by rfl)
    (hfew : ((backTo cpos (starEach [.Constant (.str sep) j p] X.env)).all (fun x => !x.1) && (backToKw cpos (keywordEach [] X.env)).all (fun x => x.1.isSome) && decide ([Expr.Constant (.str sep) j p].length + ([] : List Keyword).length + (if ([] : List Keyword).isEmpty then 0 else 1) < 30)) = true := by rfl)
    (hline : (apos.endLine == cpos.line) = true := by rfl) (hs : starEach [.Constant (.str sep) j p] X.env = (false, eval (.Constant (.str sep) j p) X.env) :: starEach [] X.env := by rfl) (hplain : (backTo cpos (starEach [] X.env)).any (·.1) = false := by rfl) :
    QE X (.Call (.Attribute o "split" apos) [.Constant (.str sep) j p] [] cpos) (mOpF (gSplit sep) (mCons f mNil)) :=
  q_opN sr_split ((pe_bm PySem.F.plainAttrs_str PySem.F.slot_str_split PySem.F.type_str_split mt_split ho (pa_cons pe_str pa_nil hs) hbase hfew hline hs hplain).imp fun σ H Q h => by
    obtain ⟨B, ρ, O, fp, x, ρ', R, hf, k⟩ := one_of (r := fun x H Q => rSplit x [.str sep] H Q) h
    refine ⟨B, ρ, O, fp, x, ρ', R, hf, fun v H1 O1 fp1 R1 k1 F1 => ?_⟩
    have q := k v H1 O1 fp1 R1 k1 F1
    obtain ⟨a, b, rfl, hb, h1, h2, h3, h4⟩ := id q
    exact ⟨rfl, q⟩)
end
noncomputable def Its (z : Str) : It := ⟨fun i _ => i < z.cps.size, fun i H x H' => H' = H ∧ ∃ c, z.cps[i]? = some c ∧ x = .str ⟨#[c]⟩, fun i _ => z.cps.size ≤ i⟩
theorem turn_str {P : Program} {w : World} {K : PySem.W.Frag} {tg : Expr} (it : Addr) (z : Str) (t : Tok) : Turn P w K tg (Its z) [it] it (fun i h => h.IsStrIter it "str_ascii_iterator" z t i) where
  mem := by simp
  obj := fun i h st b hb => by
    have e : b = it := by simpa using hb
    subst e
    obtain ⟨o, e, c, d⟩ := st
    exact ⟨o, e, fun v q => by rw [d] at q; cases q⟩
  keep := fun i h h' st k => by
    obtain ⟨o, e, c, d⟩ := st
    exact ⟨o, k it (by simp) o e, c, d⟩
  item := by
    intro X hP hw hK hc i pins s σ H E I hf st' hg
    subst hP hw hK
    obtain ⟨f0, f1, f2, f3, f4, f5⟩ := hf it (by simp)
    have W := Walks.strAscii (prog := X.prog) (w := X.w) (I.ok.hd hc) it z t
    refine W.item i s _ _ hg st' fun v h' tk hv st2 kk => ?_
    obtain ⟨c, u, hcz, rfl⟩ := hv
    have I1 : Inv X pins σ H { s with heap := h', toks := tk } := I.turned (fun b o hb e => kk b o (by simpa using hb) e) f0 f1 f3 f4 f5
    obtain ⟨o, e, cl, d⟩ := id st2
    exact ⟨_, rfl, go_of (s := { s with heap := h', toks := tk }) e cl d (by decide) ⟨.str ⟨#[c]⟩, H, I1, ⟨u, rfl⟩, ⟨rfl, c, hcz, rfl⟩, st2, fun b hb => (hf b hb).1⟩⟩
  done := by
    intro X hP hw hK hc i pins s σ H E I hf st hg
    subst hP hw hK
    obtain ⟨f0, f1, f2, f3, f4, f5⟩ := hf it (by simp)
    have hg : z.cps.size ≤ i := hg
    refine wpAny_pyNext_ascii_end (I.ok.hd hc) st (by simpa using hg) fun h' eb => ⟨rfl, I.turned (t' := s.toks) (fun b o hb e => eb b o hb e) f0 f1 f3 f4 f5⟩
  self := fun _ _ _ _ _ st h => wpAny_pyIter_striter_ascii st h
noncomputable def chars (z : Str) : List Slot := z.cps.toList.map fun c => .val (.str ⟨#[c]⟩)
theorem walk_str {z : Str} : Walk K (Its z) (chars z) H O fp := by
  refine ⟨fun H O fp _ i s hs => ?_, fun H O fp _ => ?_⟩
  · unfold chars at hs
    rw [List.getElem?_map, Array.getElem?_toList] at hs
    cases q : z.cps[i]? with
    | none => rw [q] at hs; cases hs
    | some c =>
      rw [q] at hs
      cases hs
      refine ⟨(Array.getElem?_eq_some_iff.mp q).1, fun x H' ⟨e1, c', e2, e3⟩ => ?_⟩
      rw [q] at e2; cases e2
      subst e1 e3
      exact ⟨Same.refl _, rfl, rfl⟩
  · show z.cps.size ≤ (chars z).length
    unfold chars
    rw [List.length_map, Array.length_toList]
    exact Nat.le_refl _
section
variable {X : Cx} {a b e o tg : Expr} {f g : M R} {pos p : Pos}
theorem pi_any {l : Expr} {tl : TE} (hl : PE X l tl) : PI X tg l (fun σ H R => tl σ H fun x H1 => (∃ z, x = .str z ∧ z.cps.all (· < 128) = true ∧ R (Its z) H1) ∨
    ∃ a, x = .ref a ∧ (((∃ xs, SqL X.K H1 a xs) ∧ R (Itl X.K a) H1) ∨ ((∃ xs, SqT X.K H1 a xs) ∧ R (Itt X.K a) H1))) := by
  intro pins s σ H R I h
  refine thn (hl pins s σ H _ I h) fun v s1 ⟨x, H1, I1, r1, q1⟩ => ?_
  have new : ∀ b ∈ [s1.heap.objs.size], FpOk X pins H1 b := fun b hb => by
    have e : b = s1.heap.objs.size := by simpa using hb
    rw [e]
    exact I1.fpOk (Nat.le_refl _) (I1.hok.fresh (Nat.le_refl _))
  rcases q1 with ⟨z, rfl, hz, q⟩ | ⟨a, rfl, q⟩
  · obtain ⟨t, rfl⟩ := r1
    exact wpAny_pyIter_ascii hz ⟨s1.heap.objs.size, [s1.heap.objs.size], _, _, H1, rfl, I1.kept (t' := s1.toks) fun b o e => Heap.get?_push_of_some _ e, turn_str _ z t, ⟨_, Heap.get?_push_size _ rfl, rfl, rfl⟩, new, q⟩
  · cases r1
    rcases q with ⟨⟨xs, hq⟩, q⟩ | ⟨⟨xs, hq⟩, q⟩
    · obtain ⟨its, rv, pl, hz⟩ := I1.list hq
      exact wpAny_pyIter_list pl.isList ⟨s1.heap.objs.size, [s1.heap.objs.size], _, _, H1, rfl, I1.kept (t' := s1.toks) fun b o e => Heap.get?_push_of_some _ e, turn_list a _, ⟨_, Heap.get?_push_size _ rfl, rfl, rfl⟩, new, q⟩
    · obtain ⟨its, rv, pl, hz⟩ := I1.tuple hq
      exact wpAny_pyIter_tuple (show s1.heap.IsTuple a its.toArray from pl) ⟨s1.heap.objs.size, [s1.heap.objs.size], _, _, H1, rfl, I1.kept (t' := s1.toks) fun b o e => Heap.get?_push_of_some _ e, turn_tuple a _, ⟨_, Heap.get?_push_size _ rfl, rfl, rfl⟩, new, q⟩
noncomputable def mItA (f : M R) : M (List Slot) := fun ρ => (f ρ).bind fun x => match x.1 with
  | .of (.val (.str z)) => if z.cps.all (· < 128) = true then some (chars z, x.2) else none
  | .of (.val (.tup ds)) => some (ds.map .val, x.2)
  | .of (.fz ds) => some (ds.map .val, x.2)
  | .of (.own ds) => some (ds.map .val, x.2)
  | _ => none
theorem qi_any (h : QE X e f) : QI X tg e (mItA f) := (pi_any h).imp fun σ H Rr ⟨B, ρ, O, fp, its, ρ', R, hf, k⟩ => by
  obtain ⟨⟨x, ρ1⟩, h1, hf2⟩ := bind_some hf
  clear hf
  refine ⟨B, ρ, O, fp, x, ρ1, R, h1, fun v H1 O1 fp1 R1 k1 F1 => ?_⟩
  dsimp only at hf2
  split at hf2
  · rename_i z
    split at hf2
    · rename_i hz
      cases hf2
      obtain ⟨_, ⟨e1, _⟩, _⟩ := k1
      exact .inl ⟨z, e1, hz, k _ H1 O1 fp1 R1 F1 walk_str⟩
    · cases hf2
  · rename_i ds
    cases hf2
    obtain ⟨f, ⟨⟨a, vs, e, q, l⟩, _⟩, _⟩ := k1
    exact .inr ⟨a, e, .inr ⟨⟨vs, q⟩, k _ H1 O1 fp1 R1 F1 (walk_tup R1.lst q l)⟩⟩
  · rename_i ds
    cases hf2
    obtain ⟨f, ⟨⟨a, vs, e, q, l⟩, _⟩, _⟩ := k1
    exact .inr ⟨a, e, .inl ⟨⟨vs, q.sq⟩, k _ H1 O1 fp1 R1 F1 (walk_lst R1.lst (.inl q) l)⟩⟩
  · rename_i ds
    cases hf2
    obtain ⟨f, ⟨a, vs, e, q, l, rfl⟩, nd, hfl⟩ := k1
    exact .inr ⟨a, e, .inl ⟨⟨vs, SqL.of q⟩, k _ H1 O1 fp1 R1 F1 (walk_lst R1.lst (.inr ⟨q, (hfl a (by simp)).1⟩) l)⟩⟩
  · cases hf2
end
theorem tab_get2 {prog : Program} {w : World} {A : Around} {E : Value → Shared → Prop} {s : Shared} {d : Addr} {o : Obj} {es : Array DictEntry} {ep : Nat} {k : Str} {tk : Tok} {v : Value} {Q : Option Value → Shared → Prop} (ho : s.heap.get? d = some o) (hd : o.data = .dict es ep) (hall : (es.all fun e => isExactStrKey e.key) = true)
    (hv : (es.toList.find? fun e => e.key.isStr k).map (·.val) = some v) (h : Q (some v) { s with toks := s.toks + 1 }) : wpAny (model prog w) A (dictGet d (.str k tk)) Q E s := by
  have q : findBy (fun k v => v.isStr k) es k = some v := by
    rw [← hv]
    obtain ⟨l⟩ := es
    simp [findBy]
  unfold dictGet
  try with_reducible refine wpAny_holding ?_
  refine wpAny_bind (wpAny_pyHash_str (wpAny_bind (PyProof.Rows.KTD.kt_dictFind_strs (s := { s with toks := s.toks + 1 }) ho hd hall ?_)))
  rw [findBy_of_findIdx?] at q
  cases hi : es.findIdx? fun e => e.key.isStr k with
  | none => rw [hi] at q; cases q
  | some i =>
    rw [hi] at q
    refine wpAny_bind (wpAny_dictEntries (s := { s with toks := s.toks + 1 }) ho hd (wpAny_pure ?_))
    have q : Option.map (fun x => x.val) es[i]? = some v := q
    rw [q]
    exact h
structure TabI (K : PySem.W.Frag) (d : Addr) (T : List (Str × Int)) : Prop where
  ne : (d == sysModules) = false
  ex : ∃ o es ep, K.lookup d = some o ∧ o.ExactDict ∧ o.data = .dict es ep ∧ PyProof.Rows.KTD.Rows (fun (n : Int) v => ∃ t, v = Value.int n t) es.toList T
section
variable {X : Cx} {a b e : Expr} {f : M R} {pos p : Pos} {x : Str} {d : Addr} {T : List (Str × Int)}
noncomputable abbrev flatI (T : List (Str × Int)) : List (Str × PyProof.Rows.KTD.Dat) := T.map fun q => (q.1, PyProof.Rows.KTD.Dat.flat (.int q.2))
theorem tab_here {pins : List (Addr × Obj)} {s : Shared} {σ : L2.St} {H : Hp} (h : TabI X.K d T) (I : Inv X pins σ H s) : PyProof.Rows.KTD.Here s.heap s.heap d (flatI T) := by
  obtain ⟨o, es, ep, ho, hx, hd, hr⟩ := h.ex
  exact ⟨⟨h.ne, o, es, ep, I.kIn _ _ ho, hx, hd, hr.mono (f := fun n => PyProof.Rows.KTD.Dat.flat (.int n)) fun n v ⟨t, e⟩ => by subst e; exact .int n t⟩, fun _ _ q => q⟩
theorem datum_flat {k : Str} : ∀ {T : List (Str × Int)}, PyProof.Rows.KTD.datumAt k (flatI T) = (PyProof.Rows.KTD.datumAt k T).map fun n => PyProof.Rows.KTD.Dat.flat (.int n)
  | [] => rfl
  | (y, n) :: T => by
    show (if decide (k = y) = true then some (PyProof.Rows.KTD.Dat.flat (.int n)) else PyProof.Rows.KTD.datumAt k (flatI T)) = Option.map _ (if decide (k = y) = true then some n else PyProof.Rows.KTD.datumAt k T)
    rw [datum_flat]
    split <;> rfl
theorem op_notinT (h : TabI X.K d T) : OpR X (compareOp .NotIn) (fun x y H Q => ∃ k, x = .str k ∧ y = .ref d ∧ Q (.bl (!(PyProof.Rows.KTD.datumAt k T).isSome)) H) := by
  intro pins s σ H x y v u Q I rx ry hq
  obtain ⟨k, rfl, rfl, q⟩ := hq
  obtain ⟨t, rfl⟩ := rx
  have ry : u = Value.ref d := ry
  subst ry
  refine PyProof.Rows.KTD.notin_text (tab_here h I) ?_
  rw [← PyProof.Rows.KTD.isSome_datumAt, datum_flat, Option.isSome_map]
  exact ⟨.bl _, H, I.tok _, rfl, q⟩
noncomputable def gNotT (T : List (Str × Int)) : List Slot → Option Slot := fun ss => match ss with
  | [.val (.str k)] => some (.val (.bl (!(PyProof.Rows.KTD.datumAt k T).isSome)))
  | _ => none
theorem ix_tabI (h : TabI X.K d T) : IxR X (fun x y H Q => x = .ref d ∧ ∃ k n, y = .str k ∧ PyProof.Rows.KTD.datumAt k T = some n ∧ Q (.int n) H) := by
  intro value slice pins s σ H x y v u Q I rx ry h' hs
  obtain ⟨rfl, k, n, rfl, e, q⟩ := h'
  obtain ⟨o, es, ep, ho, hx, hd, hr⟩ := h.ex
  have rx : v = Value.ref d := rx
  subst rx
  obtain ⟨t, rfl⟩ := ry
  obtain ⟨w', ew, t', rfl⟩ := hr.find_some e
  have ho2 := I.kIn _ _ ho
  have T2 := tab_here h I
  refine PyProof.Rows.subscriptTail_builtinR (x := .int n t') T2.typeIs slot_dict_getitem.lookup ?_ hs
  have ty := T2.typeIs
  unfold getItem
  try with_reducible refine wpAny_holding ?_
  refine wpAny_bind (wpAny_sequenceKey ty (by decide) (wpAny_bind (wpAny_callSpecial?_slot (name := Str.ofString "__getitem__") ty slot_dict_getitem (wpAny_call_entry slot_dict_getitem ty entry_dict_getitem ?_ (args_dict_getitem _ _)))))
  show wpAny _ _ (dictGet d (.str k t) >>= _) _ _ s
  have hall : (es.all fun e => isExactStrKey e.key) = true := by obtain ⟨l⟩ := es; simpa using hr.exact
  exact wpAny_bind (tab_get2 ho2 hd hall ew (wpAny_pure ⟨_, rfl, wpAny_pure ⟨rfl, .int n, H, I.tok _, ⟨t', rfl⟩, q⟩⟩))
end
end Mi
namespace Mi
open PySem L2
open PySem.Spec
variable {K : PySem.W.Frag} {H H' : Hp} {O O' : Addr → Prop} {fp fp' : Nat → List Addr} {B : Hp} {ρ ρ' : En} {σ : L2.St}
noncomputable abbrev dk (kvs : List (Str × Int)) : List (Key × V) := kvs.map fun p => (Sum.inr p.1, V.int p.2)
noncomputable abbrev dat (k : Str) (kvs : List (Str × Int)) : Option Int := PyProof.Rows.KTD.datumAt k kvs
theorem dat_cons (k y : Str) (n : Int) (r : List (Str × Int)) : dat k ((y, n) :: r) = if decide (k = y) = true then some n else dat k r := rfl
theorem val_at {k : Str} : ∀ {kvs : List (Str × Int)} {vs : List (Key × Value)}, KV (dk kvs) vs → match dat k kvs with
    | some n => ∃ t, valueAt vs (Sum.inr k) = some (.int n t)
    | none => valueAt vs (Sum.inr k) = none
  | [], vs, h => by
    cases h
    rfl
  | (y, n) :: r, vs, h => by
    cases h with
    | @cons _ q _ qs h1 h2 =>
      obtain ⟨q1, q2⟩ := q
      have e1 : Sum.inr y = q1 := h1.1
      obtain ⟨t, e2⟩ := (show ∃ t, q2 = Value.int n t from h1.2)
      clear h1
      subst e1 e2
      have ih := val_at (k := k) h2
      rw [dat_cons]
      by_cases z : k = y
      · subst z
        simp only [decide_true, if_true]
        exact ⟨t, by simp [valueAt]⟩
      · have z' : ¬ y = k := fun w => z w.symm
        rw [if_neg (by simpa using z)]
        have b : valueAt ((Sum.inr y, Value.int n t) :: qs) (Sum.inr k) = valueAt qs (Sum.inr k) := by simp [valueAt, List.find?_cons, z']
        rw [b]
        exact ih
section
variable {X : Cx} {a b e o : Expr} {f g : M R} {pos p : Pos}
theorem op_notinD : OpR X (compareOp .NotIn) (fun x y H Q => ∃ k q kvs, x = .str k ∧ y = .ref q ∧ H q = some (.dK (dk kvs)) ∧ Q (.bl (!(dat k kvs).isSome)) H) := by
  intro pins s σ H x y v u Q I rx ry h
  obtain ⟨k, q, kvs, rfl, rfl, hq, hQ⟩ := h
  obtain ⟨t, rfl⟩ := rx
  have ry : u = Value.ref q := ry
  subst ry
  obtain ⟨z, hd, vs, rel, dd⟩ := (show ObjOk X.prog X.w H s.heap q (.dK (dk kvs)) from I.hok q _ hq)
  refine wpAny_notIn_of (mixKind_str X.prog X.w k t) hd dd.mapOf ?_
  have hv := val_at (k := k) rel
  have e : (valueAt vs (Sum.inr k)).isSome = (dat k kvs).isSome := by
    cases hz : dat k kvs with
    | none => rw [hz] at hv; have hv : valueAt vs (Sum.inr k) = none := hv; rw [hv]; rfl
    | some n => rw [hz] at hv; obtain ⟨t, hv⟩ := hv; rw [hv]; rfl
  rw [e]
  exact ⟨.bl _, H, I.tok _, rfl, hQ⟩
noncomputable def gNotD : List Slot → Option Slot := fun ss => match ss with
  | [.val (.str k), .val (.dct kvs)] => some (.val (.bl (!(dat k kvs).isSome)))
  | _ => none
theorem sr_notD : SR K gNotD (r2 (fun x y H Q => ∃ k q kvs, x = .str k ∧ y = .ref q ∧ H q = some (.dK (dk kvs)) ∧ Q (.bl (!(dat k kvs).isSome)) H)) := fun H ss vs s Q hr h k => by
  unfold gNotD at h
  split at h
  · rename_i y kvs
    cases h
    obtain ⟨u, v, rfl, h1, q, rfl, h2⟩ := rd2 hr
    exact ⟨u, _, rfl, y, q, kvs, h1, rfl, h2, k _ H (Same.refl H) rfl⟩
  · cases h
theorem qt_notD (ha : QE X a f) (hb : QE X b g) (hm : behindInMarks .NotIn b = false := by rfl) : QT X (.Compare a [.NotIn] [b] pos) (mTru (mOpF gNotD (mCons f (mCons g mNil)))) := qt_cmp op_notinD sr_notD ha hb hm
noncomputable def rIxD : R2 := fun x y H Q => ∃ q kvs k n, x = .ref q ∧ y = .str k ∧ H q = some (.dK (dk kvs)) ∧ dat k kvs = some n ∧ Q (.int n) H
theorem ix_dct : IxR X rIxD := by
  intro value slice pins s σ H x y v u Q I rx ry h hs
  obtain ⟨q, kvs, k, n, rfl, rfl, hq, e, hQ⟩ := h
  have rx : v = Value.ref q := rx
  subst rx
  obtain ⟨t, rfl⟩ := ry
  obtain ⟨z, hd, vs, rel, dd⟩ := (show ObjOk X.prog X.w H s.heap q (.dK (dk kvs)) from I.hok q _ hq)
  have hv := val_at (k := k) rel
  rw [e] at hv
  obtain ⟨t', hv⟩ := hv
  exact PyProof.Rows.subscriptTail_builtinR (x := .int n t') dd.typeIs slot_dict_getitem.lookup (wpAny_getItem_of (mixKind_str X.prog X.w k t) dd.mapOf hv ⟨rfl, .int n, H, I.tok _, ⟨t', rfl⟩, hQ⟩) hs
noncomputable def gIxD : List Slot → Option Slot := fun ss => match ss with
  | [.val (.dct kvs), .val (.str k)] => (dat k kvs).bind fun n => some (.val (.int n))
  | _ => none
theorem sr_ixD : SR K gIxD (r2 rIxD) := fun H ss vs s Q hr h k => by
  unfold gIxD at h
  split at h
  · rename_i kvs y
    obtain ⟨n, h1, h⟩ := bind_some h
    cases h
    obtain ⟨u, v, rfl, ⟨q, rfl, h2⟩, h3⟩ := rd2 hr
    exact ⟨_, v, rfl, q, kvs, y, n, rfl, h3, h2, h1, k _ H (Same.refl H) rfl⟩
  · cases h
theorem q_ixD (ha : QE X a f) (hb : QE X b g) (hs : PlainIx b) : QE X (.Subscript a b pos) (mOpF gIxD (mCons f (mCons g mNil))) := q_ix ix_dct sr_ixD ha hb hs
noncomputable def rSetD : V → V → V → Hp → (Hp → Prop) → Prop := fun o i v H Q => ∃ q kvs k n, o = .ref q ∧ i = .str k ∧ v = .int n ∧ H q = some (.dK (dk kvs)) ∧ dat k kvs = none ∧ kvs.length < sizeLine ∧ Q (upd H q (.dK (dk (kvs ++ [(k, n)]))))
theorem any_none {k : Str} {kvs : List (Str × Int)} {vs : List (Key × Value)} (h : KV (dk kvs) vs) (e : dat k kvs = none) : (vs.any fun kv => decide (kv.1 = Sum.inr k)) = false := by
  have hv := val_at (k := k) h
  rw [e] at hv
  have hv : valueAt vs (Sum.inr k) = none := hv
  unfold valueAt at hv
  rw [Option.map_eq_none_iff, List.find?_eq_none] at hv
  rw [List.any_eq_false]
  intro x hx
  simpa using hv x hx
theorem set_dct : PSet X rSetD := by
  intro pins s σ H o i v ov iv u Q I ro ri rv h
  obtain ⟨q, kvs, k, n, rfl, rfl, rfl, hq, e, hl, hQ⟩ := h
  have ro : ov = Value.ref q := ro
  subst ro
  obtain ⟨t, rfl⟩ := ri
  obtain ⟨z, hd, vs, rel, dd⟩ := (show ObjOk X.prog X.w H s.heap q (.dK (dk kvs)) from I.hok q _ hq)
  have lv : (dk kvs).length = vs.length := Paired.length rel
  refine wpAny_setItem_pairs (hsz := by rw [← lv]; exact z) (mixKind_str X.prog X.w k t) dd fun h' dd' hs => ?_
  have es : stored vs (Sum.inr k) u = vs ++ [(Sum.inr k, u)] := by
    unfold stored
    rw [any_none rel e]
    rfl
  rw [es] at dd'
  obtain ⟨q2, es2, ep2, hq2, r2⟩ := id dd'
  refine ⟨_, I.write (x := q) (e := q) (o := .dK (dk (kvs ++ [(k, n)]))) (by rw [hq]; exact True.intro) (.inl rfl) (fun b o hb w => (hs.2 b hb).trans w) ⟨q2, hq2⟩ ⟨?_, hd, _, ?_, dd'⟩, hQ⟩
  · rw [List.length_map, List.length_append]
    exact hl
  · have ea : dk (kvs ++ [(k, n)]) = dk kvs ++ [(Sum.inr k, V.int n)] := by simp [dk]
    rw [ea]
    exact Paired.snoc rel ⟨rfl, rv⟩
end
section
variable {X : Cx} {a b e o : Expr} {f g : M R} {pos p : Pos} {x : Str} {d : Addr} {T : List (Str × Int)}
noncomputable def gGetT (T : List (Str × Int)) : List Slot → Option Slot := fun ss => match ss with
  | [.val (.str k)] => (dat k T).bind fun n => some (.val (.int n))
  | _ => none
theorem q_getT (h : TabI X.K d T) (hg : Gl X x) (hm : X.mg x = some (.ref d)) (hb : QE X b f) (hs : PlainIx b) (hdb : (x == ("__debug__" : Str)) = false := by decide) : QE X (.Subscript (.Name x p) b pos) (mOpF (gGetT T) (mCons f mNil)) := by
  refine q_opN (r := r1 (fun v H Q => ∃ k n, v = .str k ∧ dat k T = some n ∧ Q (.int n) H)) (fun H ss vs s Q hr e k => ?_) ((pe_ix (ix_tabI h) (pe_glob (v := .ref d) hg hm rfl hdb) hb hs).imp fun σ H Q q => ?_)
  · unfold gGetT at e
    split at e
    · rename_i y
      obtain ⟨n, e1, e2⟩ := bind_some e
      cases e2
      obtain ⟨v, us, rfl, h1, hu⟩ := hr
      have hu : us = [] := hu
      have h1 : v = .str y := h1.1
      subst hu h1
      exact ⟨_, rfl, y, n, rfl, e1, k _ H (Same.refl H) rfl⟩
    · cases e
  · obtain ⟨B, ρ, O, fp, y, ρ', R, hf, k⟩ := one_of q
    refine ⟨B, ρ, O, fp, y, ρ', R, hf, fun v H1 O1 fp1 R1 k1 F1 => ?_⟩
    obtain ⟨z, n, h1, h2, h3⟩ := k v H1 O1 fp1 R1 k1 F1
    exact ⟨rfl, z, n, h1, h2, h3⟩
end
noncomputable def wordsTab (n : Nat) : List (Str × Int) := (List.range n).map fun (i : Nat) => ((toString (i : Int) : Str), (i : Int))
theorem words_succ (n : Nat) : wordsTab (n + 1) = wordsTab n ++ [((toString (n : Int) : Str), (n : Int))] := by
  unfold wordsTab
  rw [List.range_succ, List.map_append]
  rfl
theorem words_new : ((List.range 81).all fun (i : Nat) => (dat (toString (i : Int)) (wordsTab i)).isNone) = true := by decide +kernel
noncomputable def gWords : List Slot → Option Slot := fun ss => match ss with
  | [.val (.int n)] => if 0 ≤ n ∧ n ≤ 81 then some (.val (.dct (wordsTab n.toNat))) else none
  | _ => none
theorem pe_dnew {X : Cx} {pos : Pos} : PE X (.Dict [] [] pos) (fun _ H Q => ∀ q, H q = none → Q (.ref q) (upd H q (.dK []))) := fun pins s σ H Q I h =>
  wpAny_Dict_empty ⟨.ref s.heap.objs.size, _, I.laid (a := s.heap.objs.size) (o := .dK []) (t' := s.toks) (fun _ _ q => Heap.get?_push_of_some _ q) (Nat.le_refl _) ⟨Nat.zero_le _, beq_eq_false_iff_ne.mpr (Ne.symm (Nat.ne_of_lt (Nat.lt_trans (by decide) (I.mod.glob.keeps I.bk).lt))), [], .nil, Heap.DictOf.new s.heap⟩, rfl, h _ (I.hok.fresh (Nat.le_refl _))⟩
section
variable {X : Cx} {p1 p2 p3 p4 p5 p6 p7 p8 p9 p10 p11 p12 p13 p14 p15 p16 p17 : Pos} {nS nR nN : Str}
theorem pss_words (hp : PassesOwn (model X.prog X.w) X.A X.env X.xe) (hc : X.calm = true) (nd : X.N.Nodup) (h0 : X.N[0]? = some nS) (h1 : X.N[1]? = some nR) (h2 : X.N[2]? = some nN) (v0 : Loc X.env.scope nS) (v1 : Loc X.env.scope nR) (v2 : Loc X.env.scope nN)
    (e0 : PE X (.Name nS p6) (tVar 0)) (e1 : PE X (.Name nR p8) (tVar 1)) (e1' : PE X (.Name nR p16) (tVar 1)) (e2 : PE X (.Name nN p10) (tVar 2)) (e2' : PE X (.Name nN p13) (tVar 2))
    (hg : Gl X "range") (hm : X.mg "range" = none) (gs : Gl X "str") (ms : X.mg "str" = none)
    (q1 : starEach [Expr.Name nS p6] X.env = [(false, eval (.Name nS p6) X.env)]) (q2 : starEach [Expr.Name nN p10] X.env = [(false, eval (.Name nN p10) X.env)])
    (w1 : swapsWith (.Dict [] [] p2) (some (.Name nR p1)) p3.line X.env = pure false) (f1 : X.fn nR = true ∨ X.env.scope.names.lookup nR = some .local) (f2 : X.fn nN = true ∨ X.env.scope.names.lookup nN = some .local)
    (w2 : swapsWithSole [.Subscript (.Name nR p8) (.Call (.Name "str" p9) [.Name nN p10] [] p11) p12] (.Name nN p13) p14.line X.env = pure false) (w3 : swappedStores [.Subscript (.Name nR p8) (.Call (.Name "str" p9) [.Name nN p10] [] p11) p12] (.Name nN p13) X.env = pure none)
    (w4 : (assignEach [.Subscript (.Name nR p8) (.Call (.Name "str" p9) [.Name nN p10] [] p11) p12] X.env).map (·.2) = [assign (.Subscript (.Name nR p8) (.Call (.Name "str" p9) [.Name nN p10] [] p11) p12) X.env])
    (w5 : ∀ v, assign (.Subscript (.Name nR p8) (.Call (.Name "str" p9) [.Name nN p10] [] p11) p12) X.env v = (do
      let ov ← holding [v] (eval (.Name nR p8) X.env)
      let iv ← holding [v, ov] (eval (.Call (.Name "str" p9) [.Name nN p10] [] p11) X.env)
      standAt p12
      holding [v, ov, iv] (setItem ov iv v)
      release [v, ov, iv] [])) (w6 : ∀ x, foldedSetIterable (.Call (.Name "range" p5) [.Name nS p6] [] p7) X.env x = pure x) :
    PSs X [.Assign [.Name nR p1] (.Dict [] [] p2) p3, .For (.Name nN p4) (.Call (.Name "range" p5) [.Name nS p6] [] p7) [.Assign [.Subscript (.Name nR p8) (.Call (.Name "str" p9) [.Name nN p10] [] p11) p12] (.Name nN p13) p14] [] p15, .Return (some (.Name nR p16)) p17]
      (fun D σ H => ∃ n : Nat, n ≤ 81 ∧ σ.length = 3 ∧ σ[0]? = some (some (.int n)) ∧ ∀ a H', H a = none → Same H H' → H' a = some (.dK (dk (wordsTab n))) → D.rt (.ref a) H') :=
  (pss_cons (ps_set (i := 1) nd h1 v1 pe_dnew w1 f1) (pss_cons (ps_for hp hc (pi_range1 hg hm (pa_cons e0 pa_nil q1) q1) (pg_name (i := 2) nd h2 v2 f2)
      (pss_one (ps_asg e2' (pg_sub e1 (pe_callTy call_str_int gs ms PyProof.Rows.boot_str (pa_cons e2 pa_nil q2) (by decide) (by decide) q2 rfl) set_dct w5) w2 w3 w4)) w6) (pss_one (ps_ret e1')))).imp fun D σ H h => by
    obtain ⟨n, hn, hl, hσ, k⟩ := h
    intro q hq
    refine ⟨.int n, by rw [List.getElem?_set_ne (by decide)]; exact hσ, n, rfl, by omega, by omega, ?_⟩
    refine for_range (fun i σ' H' => σ'.length = 3 ∧ σ'[1]? = some (some (.ref q)) ∧ H' q = some (.dK (dk (wordsTab i))) ∧ ∀ b, b ≠ q → H' b = H b) ⟨by simpa using hl, by rw [List.getElem?_set_self (by omega)], upd_same, fun b hb => upd_ne hb⟩ (fun i σ' H' hi hP => ?_) fun σ' H' hP => ?_
    · obtain ⟨g1, g2, g3, g4⟩ := hP
      have hi81 : i < 81 := by omega
      have new := List.all_eq_true.mp words_new i (List.mem_range.mpr hi81)
      have new : dat (toString (i : Int)) (wordsTab i) = none := by simpa using new
      have ei : (0 : Int) + (i : Int) = i := by omega
      rw [ei]
      refine ⟨.int i, by rw [List.getElem?_set_self (by omega)], .ref q, by rw [List.getElem?_set_ne (by decide)]; exact g2, .int i, by rw [List.getElem?_set_self (by omega)], i, rfl, log_small (by omega), q, wordsTab i, (toString (i : Int) : Str), i, rfl, rfl, rfl, g3, new, ?_, ?_⟩
      · unfold wordsTab
        rw [List.length_map, List.length_range]
        exact Nat.lt_trans hi81 (by decide)
      · refine ⟨by simpa using g1, by rw [List.getElem?_set_ne (by decide)]; exact g2, by rw [upd_same, words_succ], fun b hb => by rw [upd_ne hb]; exact g4 b hb⟩
    · obtain ⟨g1, g2, g3, g4⟩ := hP
      refine ⟨.ref q, g2, k q H' hq (fun b o hb => ?_) ?_⟩
      · rw [g4 b fun z => by rw [z, hq] at hb; cases hb]
        exact hb
      · simpa using g3
end
theorem qt_notinT {X : Cx} {a : Expr} {f : M R} {pos p : Pos} {x : Str} {d : Addr} {T : List (Str × Int)} (h : TabI X.K d T) (hg : Gl X x) (hm : X.mg x = some (.ref d)) (ha : QE X a f) (hb : behindInMarks .NotIn (.Name x p) = false := by rfl) (hdb : (x == ("__debug__" : Str)) = false := by decide) :
    QT X (.Compare a [.NotIn] [.Name x p] pos) (mTru (mOpF (gNotT T) (mCons f mNil))) := by
  refine (pt_cmpR (op_notinT h) ha (pe_glob (v := .ref d) hg hm rfl hdb) hb).imp fun σ H Q ⟨B, ρ, O, fp, b, ρ', R, hf, k⟩ => ?_
  obtain ⟨⟨y, ρ1⟩, h1, hf2⟩ := bind_some hf
  obtain ⟨⟨rs, ρ2⟩, h3, hf3⟩ := bind_some h1
  obtain ⟨ss, h4, hf4⟩ := bind_some hf3
  obtain ⟨s, h5, hf5⟩ := bind_some hf4
  obtain ⟨t, h6, hf6⟩ := bind_some hf5
  clear hf h1 hf3 hf4 hf5
  cases hf6
  obtain ⟨⟨z, ρ3⟩, q1, q2⟩ := bind_some h3
  cases q2
  obtain ⟨w, q3, q4⟩ := bind_some h4
  cases q4
  refine ⟨B, ρ, O, fp, z, ρ3, R, q1, fun v H1 O1 fp1 R1 k1 F1 => ?_⟩
  obtain ⟨ft, hs'⟩ := R1.dr k1 q3
  have rd := hs'.rd
  have h5 : gNotT T [rdS w] = some s := h5
  unfold gNotT at h5
  split at h5
  · rename_i kk e
    have e : rdS w = .val (.str kk) := (List.cons.inj e).1
    cases h5
    cases h6
    cases hf2
    rw [e] at rd
    have rd : v = .str kk := rd.1
    exact ⟨kk, rd, rfl, _, rfl, k H1 O1 fp1 R1 F1⟩
  · cases h5
end Mi
namespace Mi
open PySem L2
open PySem.Spec
variable {K : PySem.W.Frag} {H H' : Hp} {O O' : Addr → Prop} {fp fp' : Nat → List Addr} {B : Hp} {ρ ρ' : En} {σ : L2.St}
noncomputable def tWords : TS := fun D σ H => ∃ n : Nat, n ≤ 81 ∧ σ.length = 3 ∧ σ[0]? = some (some (.int n)) ∧ ∀ a H', H a = none → Same H H' → H' a = some (.dK (dk (wordsTab n))) → D.rt (.ref a) H'
section
variable {P : Program} {w : World} {K : PySem.W.Frag} {mg : Str → Option Value} {base : Heap} {x qual : Str} {st : Stmt} {f : Addr} {fd : FuncData} {N ps : List Str} {k : Nat}
theorem fn_words (F : Fun K x qual st f fd) (S : FnScope N ps (defScope st)) (hN : N.length = 3) (hp : ps.length = 1)
    (hbody : ∀ (cdv : Value) (A : Around) (outer : List PySem.Env) (s : Shared) (H : Hp) (E : XK), Room k (A.deeper (PyProof.Rows.envOfC qual (defScope st) s.heap.objs.size f cdv)) →
      PSs (cxOf CX0 P w K mg base N qual (defScope st) f cdv A outer s H E).nox (defBody st) tWords) : FnOk P w K mg base CX0 (k + 1) f fd ps (spF K 1 gWords) := by
  refine F.ok S (fun vs H Q E h => ?_) fun cdv A outer s H vs Q E hr h => ⟨_, hbody cdv A outer s H E hr, ?_⟩
  · obtain ⟨ss, t, e, r, _⟩ := h
    rw [r.length, e, hp]
  · obtain ⟨ss, t, e, r, hF, G⟩ := h
    unfold gWords at hF
    split at hF
    · rename_i n
      split at hF
      · rename_i hz
        cases hF
        obtain ⟨v, us, rfl, h1, hu⟩ := r
        have hu : us = [] := hu
        have h1 : v = .int n := h1.1
        subst hu h1
        obtain ⟨m, rfl⟩ := Int.eq_ofNat_of_zero_le hz.1
        have G' : ∀ v H', Same H H' → Is K H' (.dct (wordsTab m)) v → Q v H' := fun v H' sm q => G v H' sm (by simpa using q)
        refine ⟨m, by omega, ?_, rfl, fun a H' ha sm hd => G' (.ref a) H' sm ⟨a, rfl, hd⟩⟩
        unfold L2.start
        simp [hN]
      · cases hF
    · cases hF
end
noncomputable def spP (K : PySem.W.Frag) (n : Nat) (F : List Slot → Option (D × List D)) : Sp := fun vs H Q _ => ∃ ss d ds, ss.length = n ∧ RdL K H ss vs ∧ F ss = some (d, ds) ∧
  ∀ a q v us H', Same H H' → H a = none → H q = none → H' a = some (.tup [v, .ref q]) → Is K H' d v → H' q = some (.lst us) → IsL K H' ds us → Q (.ref a) H'
structure CalP (P : Program) (w : World) (K : PySem.W.Frag) (mg : Str → Option Value) (base : Heap) (k : Nat) (x : Str) (n : Nat) (F : List Slot → Option (D × List D)) : Prop where
  ex : ∃ f fd ps, FnOk P w K mg base CX0 k f fd ps (spP K n F) ∧ Binds K fd ps [] ∧ PySem.W.keepIn K (.ref f) = true ∧ mg x = some (.ref f)
section
variable {X : Cx} {it ic ir tx k k2 : Nat} {nt nc nr nx fr wh : Str} {F : List Slot → Option (D × List D)} {W : List Slot → Option Slot} {j1 j2 j3 j4 j5 : Nat}
  {p1 p2 p3 p4 p5 p6 p7 p8 p9 p10 p11 p12 p13 p14 p15 p16 p17 p18 p19 p20 p21 p22 p23 p24 p25 p26 p27 p28 p29 p30 p31 p32 p33 p34 p35 p36 p37 p38 p39 p40 p41 : Pos}
noncomputable def Told (K : PySem.W.Frag) (it ic ir : Nat) (c : Int) (ds es : List D) (a q r : Addr) (σ : L2.St) (H : Hp) : Prop := σ[it]? = some (some (.ref a)) ∧ σ[ic]? = some (some (.int c)) ∧ σ[ir]? = some (some (.ref r)) ∧ H a = some (.tup [.int c, .ref q]) ∧
  (∃ us, H q = some (.lst us) ∧ IsL K H ds us) ∧ RdOk K H (.fz es) (.ref r)
theorem Told.same {c : Int} {ds es : List D} {a q r : Addr} (h : Told K it ic ir c ds es a q r σ H) (e : Same H H') : Told K it ic ir c ds es a q r σ H' := by
  obtain ⟨h1, h2, h3, h4, ⟨us, h5, h6⟩, h7⟩ := h
  exact ⟨h1, h2, h3, e _ _ h4, ⟨us, e _ _ h5, h6.tk (Tk.same e)⟩, SlotOk.grow e h7⟩
end
section
variable {X : Cx} {it ic ir tx k k2 : Nat} {nt nc nr nx fr wh : Str} {F : List Slot → Option (D × List D)} {W : List Slot → Option Slot} {j1 j2 j3 j4 j5 : Nat}
  {p1 p2 p3 p4 p5 p6 p7 p8 p9 p10 p11 p12 p13 p14 p15 p16 p17 p18 p19 p20 p21 p22 p23 p24 p25 p26 p27 p28 p29 p30 p31 p32 p33 p34 p35 p36 p37 p38 p39 p40 p41 : Pos}
end
end Mi
namespace Mi
open PySem L2
open PySem.Spec
variable {K : PySem.W.Frag} {H H' : Hp} {O O' : Addr → Prop} {fp fp' : Nat → List Addr} {B : Hp} {ρ ρ' : En} {σ : L2.St}
noncomputable def Tr (h G : Heap) (e : Addr) (C a0 : Value) (x2 : Option Value) (fl : Value) : Prop :=
  ∃ oe vs T oT ts, h.get? e = some oe ∧ (oe.cls = C ∧ vs[0]? = some a0) ∧ oe.data = .fields vs ∧ vs[1]? = some (.ref T) ∧ G.get? T = none ∧ T ≠ e ∧ h.get? T = some oT ∧ oT.data = .fields ts ∧ ts[3]? = some fl ∧ vs[2]? = x2
structure Fly (G : Heap) (l : List PySem.Env) (e : Addr) (C a0 : Value) (x2 : Option Value) (fl : Value) (h : Heap) : Prop where
  stays : G.StaysIn h
  new : G.get? e = none
  frames : h.FunFrames G l
  tr : Tr h G e C a0 x2 fl
section
variable {M : Model} {A : Around} {E : Value → Shared → Prop} {s : Shared} {G : Heap} {env : PySem.Env} {outer l : List PySem.Env} {L e : Addr} {C a0 fl : Value} {x2 : Option Value}
theorem Fly.of {h : Heap} (f : Heap.FlyingW G l e C a0 h) : ∃ x2, Fly G l e C a0 x2 .none h := by
  obtain ⟨f1, f2, f3, oe, vs, T, oT, ts, h1, h2, h3, h4, h5, h6, h7, h8, h9⟩ := f
  exact ⟨vs[2]?, f1, f2, f3, oe, vs, T, oT, ts, h1, h2, h3, h4, h5, h6, h7, h8, h9, rfl⟩
theorem Fly.to {h : Heap} (f : Fly G l e C a0 x2 .none h) : Heap.FlyingW G l e C a0 h := by
  obtain ⟨f1, f2, f3, oe, vs, T, oT, ts, h1, h2, h3, h4, h5, h6, h7, h8, h9, _⟩ := f
  exact ⟨f1, f2, f3, oe, vs, T, oT, ts, h1, h2, h3, h4, h5, h6, h7, h8, h9⟩
theorem entry {oe : Obj} {vs : Array Value} {head : Value} {hadNext : Bool} {Q : Unit → Shared → Prop} (hfr : A.frames = some (env :: outer)) (hl : s.heap.FunFrames G (env :: outer)) (hf : env.frame = some L)
    (he : s.heap.get? e = some oe) (hk : G.StaysIn s.heap) (hn : G.get? e = none) (hd : oe.data = .fields vs) (hc : oe.cls = C) (h0 : vs[0]? = some a0) (h1 : 1 < vs.size) (h2 : vs[2]? = x2)
    (h : ∀ h', Fly G (env :: outer) e C a0 x2 (rawInt L) h' → s.heap.UpToSlots h' → Q () { s with heap := h' }) :
    wpAny M A (do let a ← frameOf env; let pl ← entryPlaceOf L hadNext; let b ← EntryCells.newEntry head a .none (rawInt L) .none pl; setField (.ref e) 1 b) Q E s := by
  have ne : e ∉ (env :: outer).filterMap (·.frame) := fun hm => by
    obtain ⟨_, o, ho, hnf⟩ := hl.mem hm
    rw [he] at ho
    cases ho
    exact hnf vs hd
  refine wpAny_bind (wpAny_frameOf_fun hfr hl hf fun h₁ hs₁ => ?_)
  refine wpAny_bind (wpAny_entryPlaceOf fun pl hpl => ?_)
  unfold EntryCells.newEntry newFields
  refine wpAny_bind (wpAny_newObj_type ?_ (hpl.sizeOk5 _ _ _ _ _))
  generalize hob : ({ cls := .type "traceback", dict := none, data := .fields ([head, .ref L, .none, rawInt L, .none] ++ (if pl.isEmpty then List.replicate 6 Value.none else pl)).toArray } : Obj) = tb
  have e1 : h₁.get? e = some oe := (hs₁.2.1 e ne).trans he
  have k1 : G.StaysIn h₁ := fun b o hb => (hs₁.2.1 b fun hm => by rw [(hl.mem hm).1] at hb; cases hb).trans (hk b o hb)
  have e2 := Heap.get?_push_of_some (h := h₁) tb e1
  have hT : h₁.objs.size ≠ e := Nat.ne_of_gt (Heap.lt_size e1)
  refine wpAny_setField e2 hd h1 (h _ ?_ ?_)
  · have d3 := Obj.data_mapFields hd (·.setIfInBounds 1 (Value.ref h₁.objs.size))
    have e3 := Heap.get?_update_self (Obj.mapFields (·.setIfInBounds 1 (Value.ref h₁.objs.size))) e2 (Obj.isFreed_of_fields d3)
    have t3 : ((h₁.push tb).update e (Obj.mapFields (·.setIfInBounds 1 (Value.ref h₁.objs.size)))).get? h₁.objs.size = some tb := (Heap.get?_update_other _ _ (Ne.symm hT)).trans (Heap.get?_push_size h₁ (by rw [← hob]; rfl))
    refine ⟨fun b o hb => ?_, hn, hl.of_keeps fun b o hb hnf => ?_, ?_⟩
    · rw [Heap.get?_update_other _ _ fun z => by rw [z, hb] at hn; cases hn]
      exact Heap.get?_push_of_some _ (k1 b o hb)
    · obtain ⟨sl, hs⟩ := hs₁.2.2 b o hb
      refine ⟨_, (Heap.get?_update_other _ _ fun z => ?_).trans (Heap.get?_push_of_some _ hs), rfl⟩
      rw [← z, he] at hb; cases hb
      exact hnf vs hd
    · refine ⟨_, _, h₁.objs.size, _, _, e3, ⟨(Obj.cls_mapFields _ _).trans hc, ?_⟩, d3, ?_, k1.fresh, hT, t3, by rw [← hob], ?_, ?_⟩
      · rw [Array.getElem?_setIfInBounds_ne (by decide)]; exact h0
      · simp [h1]
      · first
          | (simp; done)
          | (rcases hpl with rfl | ⟨_, _, _, _, _, _, _, rfl⟩ <;> simp)
      · rw [Array.getElem?_setIfInBounds_ne (by decide)]; exact h2
  · intro b o hb hnf
    obtain ⟨sl, hs⟩ := hs₁.2.2 b o hb
    refine ⟨sl, (Heap.get?_update_other _ _ fun z => ?_).trans (Heap.get?_push_of_some _ hs)⟩
    rw [← z, he] at hb; cases hb
    exact hnf vs hd
theorem note_first {oe : Obj} {vs : Array Value} {Q : Unit → Shared → Prop} (hfr : A.frames = some (env :: outer)) (hl : s.heap.FunFrames G (env :: outer)) (hf : env.frame = some L)
    (he : s.heap.get? e = some oe) (hk : G.StaysIn s.heap) (hn : G.get? e = none) (hd : oe.data = .fields vs) (hc : oe.cls = C) (h0 : vs[0]? = some a0) (h1 : vs[1]? = some .none) (h2 : vs[2]? = x2)
    (h : ∀ h', Fly G (env :: outer) e C a0 x2 (rawInt L) h' → s.heap.UpToSlots h' → Q () { s with heap := h' }) : wpAny M A (noteFrame (.ref e) env) Q E s := by
  unfold noteFrame
  simp only [hf]
  refine wpAny_bind (wpAny_field he hd h1 ?_)
  rw [if_neg (by decide)]
  exact entry hfr hl hf he hk hn hd hc h0 (Array.getElem?_eq_some_iff.mp h1).1 h2 h
theorem flight {f : Option Addr} {Q : Unit → Shared → Prop} (x : Fly G l e C a0 x2 fl s.heap) (h : ∀ h', Fly G l e C a0 x2 (f.elim .none fun f => rawInt f) h' → s.heap.UpToSlots h' → Q () { s with heap := h' }) : wpAny M A (setFlight (.ref e) f) Q E s := by
  obtain ⟨f1, f2, f3, oe, vs, T, oT, ts, h1, h2, h3, h4, h5, h6, h7, h8, h9, h10⟩ := x
  have sz : 3 < ts.size := (Array.getElem?_eq_some_iff.mp h9).1
  unfold setFlight
  refine wpAny_bind (wpAny_field h1 h3 h4 ?_)
  rw [if_pos (show (Value.ref T != Value.none) = true from by simp)]
  have other : ∀ b, b ≠ T → (s.heap.update T (Obj.mapFields (·.setIfInBounds 3 (f.elim Value.none fun f => rawInt f)))).get? b = s.heap.get? b := fun b hb => Heap.get?_update_other _ _ (Ne.symm hb)
  have nf : ∀ b o, s.heap.get? b = some o → (∀ vs, o.data ≠ .fields vs) → b ≠ T := fun b o hb hnf q => by
    rw [q, h7] at hb; cases hb
    exact hnf ts h8
  refine wpAny_setField h7 h8 sz (h _ ⟨fun b o hb => (other b fun q => by rw [q, h5] at hb; cases hb).trans (f1 b o hb), f2, f3.of_keeps fun b o hb hn => ⟨o, (other b (nf b o hb hn)).trans hb, rfl⟩, ?_⟩ fun b o hb hn => ⟨o.slots, (other b (nf b o hb hn)).trans hb⟩)
  exact ⟨oe, vs, T, _, _, (other e (Ne.symm h6)).trans h1, h2, h3, h4, h5, h6, Heap.get?_update_self _ h7 (Obj.isFreed_of_fields (Obj.data_mapFields h8 _)), Obj.data_mapFields h8 _, by simp [sz], h10⟩
theorem note {Q : Unit → Shared → Prop} (hfr : A.frames = some (env :: outer)) (hf : env.frame = some L) (x : Fly G (env :: outer) e C a0 x2 fl s.heap)
    (h : ∀ h', Fly G (env :: outer) e C a0 x2 (rawInt L) h' → s.heap.UpToSlots h' → Q () { s with heap := h' }) : wpAny M A (noteFrame (.ref e) env) Q E s := by
  obtain ⟨f1, f2, f3, oe, vs, T, oT, ts, h1, h2, h3, h4, h5, h6, h7, h8, h9, h10⟩ := id x
  have sz : 3 < ts.size := (Array.getElem?_eq_some_iff.mp h9).1
  unfold noteFrame
  simp only [hf]
  refine wpAny_bind (wpAny_field h1 h3 h4 ?_)
  rw [if_pos (show (Value.ref T != Value.none) = true from by simp)]
  refine wpAny_bind (wpAny_field h7 h8 h9 ?_)
  by_cases z : (fl == rawInt L) = true
  · rw [if_pos z]
    have z' : fl = rawInt L := by simpa using z
    subst z'
    exact wpAny_pure (h _ x (Heap.UpToSlots.refl _))
  · rw [if_neg z]
    have other : ∀ b, b ≠ T → (s.heap.update T (Obj.mapFields (·.setIfInBounds 3 Value.none))).get? b = s.heap.get? b := fun b hb => Heap.get?_update_other _ _ (Ne.symm hb)
    have nf : ∀ b o, s.heap.get? b = some o → (∀ vs, o.data ≠ .fields vs) → b ≠ T := fun b o hb hnf q => by
      rw [q, h7] at hb; cases hb
      exact hnf ts h8
    refine wpAny_bind (wpAny_setField h7 h8 sz ?_)
    refine entry hfr (f3.of_keeps fun b o hb hn => ⟨o, (other b (nf b o hb hn)).trans hb, rfl⟩) hf ((other e (Ne.symm h6)).trans h1) (fun b o hb => (other b fun q => by rw [q, h5] at hb; cases hb).trans (f1 b o hb)) f2 h3 h2.1 h2.2 (Array.getElem?_eq_some_iff.mp h4).1 h10 fun h' x' up => h h' x' ?_
    exact Heap.UpToSlots.trans (fun b o hb hn => ⟨o.slots, (other b (nf b o hb hn)).trans hb⟩) up
theorem Fly.drop {h : Heap} (x : Fly G (env :: outer) e C a0 x2 fl h) : Fly G outer e C a0 x2 fl h := ⟨x.stays, x.new, x.frames.2.2, x.tr⟩
theorem leave {Q : Unit → Shared → Prop} (hfr : A.frames = some (env :: outer)) (hf : env.frame = some L) (x : Fly G (env :: outer) e C a0 x2 fl s.heap)
    (h : ∀ h', Fly G outer e C a0 x2 .none h' → s.heap.UpToSlots h' → Q () { s with heap := h' }) : wpAny M A (leaving env (.ref e)) Q E s := by
  unfold leaving
  refine wpAny_bind (note hfr hf x fun h1 x1 u1 => flight (s := { s with heap := h1 }) (f := none) x1 fun h2 x2 u2 => h h2 x2.drop (u1.trans u2))
theorem goes_on {α : Type} {what : String} {Q : α → Shared → Prop} (x : Fly G l e C a0 x2 fl s.heap) (h : ∀ h', Fly G l e C a0 x2 (env.frame.elim .none fun f => rawInt f) h' → s.heap.UpToSlots h' → E (.ref e) { s with heap := h' }) : wpAny M A (passOn what (.ref e) env : Sem α) Q E s := by
  obtain ⟨oe, vs, T, oT, ts, h1, h2, h3, h4, h5, h6, h7, h8, h9, h10⟩ := x.tr
  unfold passOn
  refine wpAny_bind (wpAny_field h1 h3 h4 ?_)
  rw [if_neg (show ¬ ((Value.ref T == Value.none) = true) from by simp)]
  refine wpAny_bind (flight x fun h' x' u => wpAny_throw (h h' x' u))
theorem came_back (x : Fly G l e C a0 x2 fl s.heap) (h : ∀ h', Fly G l e C a0 x2 (env.frame.elim .none fun f => rawInt f) h' → s.heap.UpToSlots h' → E (.ref e) { s with heap := h' }) : cameBackBy M A env E (.ref e) s := by
  obtain ⟨oe, vs, T, oT, ts, h1, h2, h3, h4, h5, h6, h7, h8, h9, h10⟩ := x.tr
  unfold cameBackBy
  refine wpAny_bind (wpAny_field h1 h3 h4 ?_)
  rw [if_neg (show ¬ ((Value.ref T == Value.none) = true) from by simp)]
  exact flight x fun h' x' u => h h' x' u
end
noncomputable def Lands (X : Cx) (E : XK) : Prop := ∀ (pins : List (Addr × Obj)) (σ : L2.St) (H : Hp) (s : Shared) (e : Addr) (C a0 : Value) (x2 : Option Value) (fl : Value) (G : Heap), Inv X pins σ H s → Fly G X.stack e C a0 x2 fl s.heap →
  (∀ b o, X.s₀.heap.get? b = some o → b ∉ X.fs → X.H₀ b = none → b ∉ X.ex → G.get? b = some o) → (∀ b o, X.s₀.heap.get? b = some o → b ∉ X.fs → b ∉ X.ex → ∃ o', G.get? b = some o') → (∀ b u, H b = some u → ∃ o, G.get? b = some o) → H e = none → E C none H → X.xe (.ref e) s
noncomputable def LandsW (X : Cx) (E : XK) : Prop := ∀ (H : Hp) (s : Shared) (e : Addr) (C a0 : Value) (x2 : Option Value) (fl : Value) (G : Heap), X.Ok → s.os = X.s₀.os → PyProof.Rows.AllBare s.gens → Un X.fs X.ex X.H₀ H X.s₀.heap s.heap → HOk X.prog X.w H s.heap → Fly G X.stack e C a0 x2 fl s.heap →
  (∀ b o, X.s₀.heap.get? b = some o → b ∉ X.fs → X.H₀ b = none → b ∉ X.ex → G.get? b = some o) → (∀ b o, X.s₀.heap.get? b = some o → b ∉ X.fs → b ∉ X.ex → ∃ o', G.get? b = some o') → (∀ b u, H b = some u → ∃ o, G.get? b = some o) → H e = none → E C none H → X.xe (.ref e) s
theorem LandsW.s {X : Cx} {E : XK} (L : LandsW X E) : Lands X E := fun pins σ H s e C a0 x2 fl G I x c1 c2 c3 hn hE => L H s e C a0 x2 fl G I.ok I.os I.bare I.base I.hok x c1 c2 c3 hn hE
theorem old_ne {X : Cx} (ok : X.Ok) {b : Addr} {o : Obj} (q : X.s₀.heap.get? b = some o) (hb : b ∉ X.fs) : b ∉ frs X.stack := by
  rcases ok.stk with e | ⟨e, ef⟩
  · rw [e]; exact hb
  · rw [e]
    intro z
    have z' : b ∈ (X.env :: X.outer).filterMap (·.frame) := z
    rw [List.filterMap_cons_some ef] at z'
    rcases List.mem_cons.mp z' with rfl | z'
    · exact absurd (Heap.lt_size q) (Nat.not_lt.mpr ok.above)
    · exact hb z'
theorem Lands.passes {X : Cx} {E : XK} (L : Lands X E) : Passes (CX1 X.prog X.w) X E := fun pins σ H1 s1 e s' I c => by
  obtain ⟨a, C, a0, H2, G, rfl, hos, hb, un, hok, fl, c1, c2, c3, hn, hE0⟩ := c
  obtain ⟨x2, f⟩ := Fly.of fl
  have I2 : Inv X pins σ H2 { s' with heap := s'.heap, toks := s'.toks } := inv_land I hos hb un hok c1 c2 c3 fl.1 fl.1 (Heap.UpToSlots.refl _) s'.toks
  refine L pins σ H2 s' a C a0 x2 .none G I2 f (fun b o q hb n hx => ?_) (fun b o q hb hx => ?_) c3 hn hE0
  · exact c1 b o (I.base.keep b o q n hb hx) (old_ne I.ok q hb) (I.base.free b o q n hx)
  · obtain ⟨o', q1⟩ := I.base.there b o q hx
    exact c2 b o' q1 (old_ne I.ok q hb)
theorem hok_land {P : Program} {w : World} {G h h' : Heap} (hok : HOk P w H h) (g1 : G.StaysIn h) (g2 : G.StaysIn h') (c3 : ∀ b u, H b = some u → ∃ o, G.get? b = some o) : HOk P w H h' := fun b u q => by
  refine (hok b u q).stay (fun c uc hc qc => ?_) (fun _ z => z) fun _ _ z => z
  have tc : ∃ v, H c = some v := by
    rcases hc with rfl | hc
    · exact ⟨u, q⟩
    · exact ⟨_, hc⟩
  obtain ⟨v, tc⟩ := tc
  obtain ⟨o, q1⟩ := c3 c v tc
  have := g1 c o q1
  rw [qc] at this; cases this
  exact g2 c uc q1
section
variable {P : Program} {w : World} {K : PySem.W.Frag} {mg : Str → Option Value} {base : Heap} {N : List Str} {qual : Str} {scope : Scope} {f : Addr} {cd : Value} {A : Around} {outer : List PySem.Env} {s₀ : Shared} {H₀ : Hp} {E : XK}
theorem lands_cx : LandsW (cxOf (CX1 P w) P w K mg base N qual scope f cd A outer s₀ H₀ E) E := fun H s e C a0 x2 fl G ok ios ibare ibase ihok x c1 c2 c3 hn hE => by
  have hst : s.heap.FunFrames G (PyProof.Rows.envOfC qual scope s₀.heap.objs.size f cd :: outer) := x.frames
  have hfr : (A.deeper (PyProof.Rows.envOfC qual scope s₀.heap.objs.size f cd)).frames = some (PyProof.Rows.envOfC qual scope s₀.heap.objs.size f cd :: outer) := ok.frames
  have b0 : Un (frs outer) [] H₀ H s₀.heap s.heap := ibase
  show wpAny _ _ (leaving _ _) _ _ _
  refine leave hfr rfl x fun h' x' up => ?_
  have slots : ∀ b ∈ frs outer, ∀ o, s.heap.get? b = some o → ∃ sl, h'.get? b = some { o with slots := sl } := fun b hb o q => by
    obtain ⟨_, o', ho', hd⟩ := hst.mem (b := b) (List.mem_cons_of_mem _ hb)
    rw [q] at ho'; cases ho'
    exact up b o q hd
  refine ⟨e, C, a0, H, G, rfl, ios, ibare, ⟨fun b o q n hb hx => x'.stays b o (c1 b o q hb n (by simp [cxOf])), fun b o q n hb hx => ?_, fun b o q n hx => b0.free b o q n hx, fun b o q hx => ?_, b0.tups, b0.frzs, b0.tbls⟩, hok_land ihok x.stays x'.stays c3, x'.to, fun b o q n1 n2 => c1 b o q n1 n2 (by simp [cxOf]), fun b o q n1 => c2 b o q n1 (by simp [cxOf]), c3, hn, hE⟩
  · obtain ⟨sl, q1⟩ := b0.slot b o q n hb hx
    obtain ⟨sl2, q2⟩ := slots b hb _ q1
    exact ⟨sl2, q2⟩
  · by_cases hb : b ∈ frs outer
    · obtain ⟨o', q1⟩ := b0.there b o q hx
      obtain ⟨sl, q2⟩ := slots b hb o' q1
      exact ⟨_, q2⟩
    · obtain ⟨o', q1⟩ := c2 b o q hb (by simp [cxOf])
      exact ⟨o', x'.stays b o' q1⟩
end
noncomputable abbrev xkOf (mg : Str → Option Value) (W : Str → Hp → Prop) : XK := fun C _ H => ∃ c, mg c = some C ∧ W c H
theorem fn_okY {P : Program} {w : World} {K : PySem.W.Frag} {mg : Str → Option Value} {base : Heap} {x qual : Str} {st : Stmt} {f : Addr} {fd : FuncData} {N ps : List Str} {k : Nat} {g : MX} (F : Fun K x qual st f fd) (S : FnScope N ps (defScope st))
    (hbody : ∀ (cdv : Value) (A : Around) (outer : List PySem.Env) (s : Shared) (H : Hp) (E : XK) (W : Str → Hp → Prop), Room k (A.deeper (PyProof.Rows.envOfC qual (defScope st) s.heap.objs.size f cdv)) →
      Raiser (cxOf (CX1 P w) P w K mg base N qual (defScope st) f cdv A outer s H E) W →
      PassesOwn (model P w) (cxOf (CX1 P w) P w K mg base N qual (defScope st) f cdv A outer s H E).A (cxOf (CX1 P w) P w K mg base N qual (defScope st) f cdv A outer s H E).env (cxOf (CX1 P w) P w K mg base N qual (defScope st) f cdv A outer s H E).xe →
      LandsW (cxOf (CX1 P w) P w K mg base N qual (defScope st) f cdv A outer s H E) (xkOf mg W) →
      QXs (cxOf (CX1 P w) P w K mg base N qual (defScope st) f cdv A outer s H E) W (defBody st) g) : FnOk P w K mg base (CX1 P w) (k + 1) f fd ps (spX K mg ps.length (runX ps.length N.length g)) := by
  obtain ⟨oc, od, kV, doc, pm, an, cdv, ct, osl, rfl, lk, hcd⟩ := F.ex
  refine fn_of lk hcd S (fun vs H Q E h => ?_) fun A outer s H vs Q E hr h => ?_
  · obtain ⟨ss, t, e, r, _⟩ := h
    rw [r.length, e]
  · obtain ⟨ss, t, e, r, hF, G⟩ := h
    refine ⟨_, hbody cdv A outer s H E (fun c H' => ∀ C, mg c = some C → E C none H') hr (fun pins σ H s h' e c C args I hm hx hw => raise_out I hx (hw C hm)) PassesOwn.leaving (fun H s e C a0 x2 fl G ok i1 i2 i3 i4 x c1 c2 c3 hn ⟨c, hm, hE⟩ => lands_cx H s e C a0 x2 fl G ok i1 i2 i3 i4 x c1 c2 c3 hn (hE C hm)), ?_⟩
    unfold runX at hF
    rw [if_pos e] at hF
    obtain ⟨o, h1, hF⟩ := bind_some hF
    have R0 := start_rel (N := N) r
    rw [e] at R0
    refine ⟨H, _, O0, fun _ => [], o, R0, h1, ?_⟩
    cases o with
    | ex c =>
      cases hF
      exact fun ρ' σ' H' O' fp' R' C hm => G C H' hm R'.keep
    | o x =>
      cases x with
      | nx ρ' =>
        cases hF
        exact fun σ' H' O' fp' R' F' => G .non H' R'.keep rfl
      | bk ρ' => cases hF
      | ct ρ' => cases hF
      | rt s' =>
        obtain ⟨t', hF', hF⟩ := bind_some hF
        cases hF
        obtain ⟨rfl, hn⟩ := fresh_of hF'
        intro ρ' σ' v H' O' fp' R' k'
        obtain ⟨f, hs, nd, hf⟩ := k'
        cases t' with
        | val d => exact G v H' R'.keep hs.1
        | fz d => exact hn.elim
        | fz2 d => exact hn.elim
        | own ds =>
          obtain ⟨p, vs', rfl, h2, h3, rfl⟩ := hs
          exact G p vs' H' R'.keep (R'.new p (hf p (by simp)).1.1) h2 h3
        | own2 dss =>
          obtain ⟨p, qs, rfl, h2, h3, rfl⟩ := hs
          exact G p qs H' R'.keep (fun a ha => R'.new a (hf a ha).1.1) nd h2 h3
inductive RX where
  | v (r : R) (ρ : En) | x (c : Str)
noncomputable abbrev MXE := En → Option RX
noncomputable def tQE (K : PySem.W.Frag) (W : Str → Hp → Prop) (f : MXE) : TE := fun σ H Q => ∃ B ρ O fp o, Rel K B ρ σ H O fp ∧ f ρ = some o ∧
  match o with
  | .v r ρ' => ∀ v H' O' fp', Rel K B ρ' σ H' O' fp' → ResOk K H' O' fp' σ (fl O fp) r v → Fr H O fp H' O' fp' → Q v H'
  | .x c => ∀ ρ' σ' H' O' fp', Rel K B ρ' σ' H' O' fp' → W c H'
noncomputable abbrev QEX (X : Cx) (W : Str → Hp → Prop) (e : Expr) (f : MXE) : Prop := PE X e (tQE X.K W f)
noncomputable def mCallX (n : Nat) (F : List Slot → Option ResX) (m : M (List R)) : MXE := fun ρ => (m ρ).bind fun x => (drs x.2 x.1).bind fun ss => if ss.length = n then (F ss).bind fun r => match r with
    | .v s => (fresh s).bind fun t => some (.v (.of t) x.2)
    | .x c => some (.x c)
  else none
section
variable {X : Cx} {W : Str → Hp → Prop} {e : Expr} {es : List Expr} {pos p : Pos} {k n : Nat} {x : Str} {F : List Slot → Option ResX} {m : M (List R)}
theorem qe_callX (L : Lands X (xkOf X.mg W)) (C : CalX X.prog X.w X.K X.mg X.base k x n F) (hr : Room k X.A) (hg : Gl X x) (ha : QA X (e :: es) m)
    (hdb : (x == ("__debug__" : Str)) = false := by decide) (he : starEach (e :: es) X.env = (false, eval e X.env) :: starEach es X.env := by rfl) (hpl : (backTo pos (starEach es X.env)).any (·.1) = false := by rfl) :
    QEX X W (.Call (.Name x p) (e :: es) [] pos) (mCallX n F m) := by
  obtain ⟨f, fd, ps, G, hb, hk, hm⟩ := C.ex
  refine (pe_call G hr hg hm hk hb .nil L.passes ha hdb he hpl).imp fun σ H Q h => ?_
  obtain ⟨B, ρ, O, fp, o, R, hf, k⟩ := h
  obtain ⟨⟨rs, ρ1⟩, h1, hf⟩ := bind_some hf
  obtain ⟨ss, h2, hf⟩ := bind_some hf
  split at hf
  · rename_i hn
    obtain ⟨r, h3, hf⟩ := bind_some hf
    refine ⟨B, ρ, O, fp, rs, ρ1, R, h1, fun vs H1 O1 fp1 R1 k1 F1 => ?_⟩
    show spX X.K X.mg n F (vs ++ []) H1 Q (xkOf X.mg W)
    rw [List.append_nil]
    refine ⟨ss, r, hn, ResL.rd R1 k1 h2, h3, ?_⟩
    cases r with
    | v s0 =>
      obtain ⟨t, h4, hf2⟩ := bind_some hf
      cases hf2
      obtain ⟨rfl, hfr⟩ := fresh_of h4
      exact R1.good (fun v H' O' R' k' F' => k v H' O' _ R' (k'.back F1.fl) (F1.trans F')) hfr
    | x c =>
      cases hf
      intro C H' hm' sm
      exact ⟨c, hm', k _ _ _ _ _ (R1.grow sm)⟩
  · cases hf
end
noncomputable def xSet (i : Nat) (f : MXE) : MX := fun ρ => (f ρ).bind fun o => match o with
  | .v (.of s) ρ' => if i < ρ'.length then some (.o (.nx (ρ'.set i (some s)))) else none
  | .v (.bor _) _ => none
  | .x c => some (.ex c)
section
variable {X : Cx} {W : Str → Hp → Prop} {e : Expr} {pos : Pos} {i : Nat} {x : Str} {f : MXE}
theorem qx_setE {pos' : Pos} (hN : X.N.Nodup) (hi : X.N[i]? = some x) (hx : Loc X.env.scope x) (he : QEX X W e f) (hs : swapsWith e (some (.Name x pos')) pos.line X.env = pure false := by rfl)
    (hf : X.fn x = true ∨ X.env.scope.names.lookup x = some .local := by first | exact .inl rfl | exact .inr rfl | assumption) : QX X W (.Assign [.Name x pos'] e pos) (xSet i f) :=
  (ps_set hN hi hx he hs hf).imp fun D σ H ⟨B, ρ, O, fp, o, R, hg, k⟩ => by
    obtain ⟨r, h1, hg⟩ := bind_some hg
    refine ⟨B, ρ, O, fp, r, R, h1, ?_⟩
    cases r with
    | x c =>
      cases hg
      exact k
    | v r ρ1 =>
      cases r with
      | bor j => cases hg
      | of s =>
        have hg' : (if i < ρ1.length then some (OutX.o (.nx (ρ1.set i (some s)))) else none) = some o := hg
        by_cases hl : i < ρ1.length
        · rw [if_pos hl] at hg'
          cases hg'
          intro v H' O' fp' R' k' F'
          obtain ⟨g, hs, nd, hfl⟩ := k'
          exact k _ H' O' _ (R'.set hs nd (fun a ha => (hfl a ha).1) hl) (F'.set i fun a ha => (hfl a ha).2)
        · rw [if_neg hl] at hg'; cases hg'
end
end Mi
namespace Mi
open PySem L2
open PySem.Spec
variable {K : PySem.W.Frag} {H H' : Hp} {O O' : Addr → Prop} {fp fp' : Nat → List Addr} {B : Hp} {ρ ρ' : En} {σ : L2.St}
noncomputable def blkX (X : Cx) (scope : Scope) (C : Addr) (cells : List (Str × Addr)) (s₂ : Shared) (H₂ : Hp) (ex : List Addr) (XE : Value → Shared → Prop) : Cx := { blk X scope C cells s₂ H₂ ex with xe := XE }
section
variable {X : Cx} {scope : Scope} {C : Addr} {cells : List (Str × Addr)} {s₂ : Shared} {H₂ : Hp} {ex : List Addr} {XE : Value → Shared → Prop} {pins : List (Addr × Obj)} {s : Shared}
theorem Ok.blkX (ok : (blk X scope C cells s₂ H₂ ex).Ok) : (blkX X scope C cells s₂ H₂ ex XE).Ok :=
  ⟨ok.mod, ok.kind, ok.glob, ok.blt, ok.above, ok.inj, ok.has, ok.cab, ok.hd, ok.frames, ok.stk, ok.exf, ok.bs, ok.bsz, ok.noex, ok.exfs, ok.funs, ok.frf⟩
theorem inv_blkX (I : Inv (blk X scope C cells s₂ H₂ ex) pins σ H s) : Inv (blkX X scope C cells s₂ H₂ ex XE) pins σ H s := ⟨Ok.blkX I.ok, I.os, I.bare, I.base, I.loc, I.cell, I.free, I.freeC, I.pin, I.hok, I.len⟩
end
theorem loop_anyX {prog : Program} {w : World} {A : Around} {R : Result → Shared → Prop} {s : Shared} {elt target iter : Expr} {scope : Scope} {pos : Pos} {it acc : Value} {env : PySem.Env} (I : Nat → Shared → Prop) {XE : Value → Shared → Prop}
    (hXE : XE = notedBy (model prog w) A env fun e s' => R (.error e) s')
    (turn : ∀ n s, I n s → wpAny (model prog w) A (pyNext it) (fun r s₁ => match r with
      | none => R (.ok .next) s₁
      | some v => wpAny (model prog w) A (letOwnedTupleGo target it v) (fun _ s₁ => wpAny (model prog w) A (assign target env v) (fun _ s₂ =>
          wpAny (model prog w) A (eval elt env) (fun x s₄ => wpAny (model prog w) A (call (.builtin "list.append") [acc, x]) (fun _ s₅ => ∃ m, m < n ∧ I m s₅) XE s₄) XE s₂) XE s₁) XE s₁) XE s)
    (n : Nat) (h : I n s) :
    codeAny (model prog w) A (.compLoop (.ListComp elt [⟨target, iter, [], 0⟩] scope pos) 0 it acc env) R s := by
  subst hXE
  refine codeAny_loop rfl I (fun n s hI => ?_) n h
  show wpAny _ A ((compTurn (.ListComp elt [⟨target, iter, [], 0⟩] scope pos) 0 it acc env).onRaise (fun x => do noteFrame x env; theTreesLotGoes x)) _ _ s
  refine wpAny_noted ?_
  rw [compTurn_list]
  refine wpAny_bind (wpAny_standAt (wpAny_bind (wpAny_mono (turn n s hI) (fun r s₁ h₁ => ?_) fun _ _ h' => h')))
  cases r with
  | none => exact wpAny_pure h₁
  | some v =>
    refine wpAny_bind (wpAny_mono h₁ (fun _ s₁ h₁ => ?_) fun _ _ h' => h')
    refine wpAny_bind (wpAny_mono h₁ (fun _ s₂ h₂ => wpAny_bind (wpAny_tests_nil ?_)) fun _ _ h' => h')
    exact wpAny_bind (wpAny_bind (wpAny_mono h₂ (fun x s₄ h₄ => wpAny_bind (wpAny_mono h₄ (fun _ s₅ h₅ => wpAny_pure (wpAny_pure ⟨rfl, h₅⟩)) fun _ _ h' => h')) fun _ _ h' => h'))
inductive CR where
  | ok (ds : List D) (ρ : En) | ex (c : Str)
noncomputable def preC (dn : List D) : CR → CR
  | .ok ds ρ => .ok (dn ++ ds) ρ
  | .ex c => .ex c
noncomputable def compLX (tg : MG) (elt : MXE) : List Slot → En → Option CR
  | [], ρ => some (.ok [] ρ)
  | s :: r, ρ => (tg s ρ).bind fun ρ1 => (elt ρ1).bind fun z => match z with
    | .v (.of (.val d)) ρ2 => (compLX tg elt r ρ2).bind fun w => some (preC [d] w)
    | .v _ _ => none
    | .x c => some (.ex c)
inductive IX where
  | v (its : List Slot) (ρ : En) | x (c : Str)
noncomputable abbrev MXI := En → Option IX
noncomputable def mCompX (ks : List Nat) (tg : MG) (it : MXI) (elt : MXE) : MXE := fun ρ => (it ρ).bind fun o => match o with
  | .x c => some (.x c)
  | .v its ρ2 => if its.length < big ∧ ks.all (plainAt ρ2) = true then (compLX tg elt its (maskE ks ρ2)).bind fun w => match w with
      | .ok ds ρe => if ks.all (noOwn ρe) = true then some (.v (.of (.own ds)) (unmask ks ρ2 ρe)) else none
      | .ex c => some (.x c)
    else none
theorem preC_preC (a b : List D) (o : CR) : preC a (preC b o) = preC (a ++ b) o := by
  cases o <;> simp [preC]
section
variable {X : Cx} {elt tg iter : Expr} {scope : Scope} {pos : Pos} {ks : List Nat} {g : MG} {f : MXE} {W : Str → Hp → Prop}
noncomputable def BInvX (X X' : Cx) (B : Hp) (ks : List Nat) (g : MG) (f : MXE) (its : List Slot) (fpi : List Addr) (tn : Nat → Heap → Prop) (acc : Addr) (σ : L2.St) (H₂ : Hp) (O₂ : Addr → Prop) (fp₂ : Nat → List Addr) (o : CR) (n : Nat) (s : Shared) : Prop :=
  ∃ (i : Nat) (σ' : L2.St) (H' : Hp) (O' : Addr → Prop) (fp' : Nat → List Addr) (ρ' : En) (dn : List D) (o' : CR) (vs : List V), n = its.length - i ∧ i ≤ its.length ∧ Inv X' [] σ' H' s ∧ tn i s.heap ∧ (∀ b ∈ fpi, H' b = none) ∧ Rel X.K B ρ' σ' H' O' fp' ∧ Agr ks σ σ' ∧
    Fr H₂ O₂ fp₂ H' O' fp' ∧ H' acc = some (.lst vs) ∧ fl O' fp' acc ∧ IsL X.K H' dn vs ∧ dn.length ≤ i ∧ compLX g f (its.drop i) ρ' = some o' ∧ o = preC dn o'
theorem blk_loopX (hc : X.calm = true) {C acc : Addr} {cells : List (Str × Addr)} {s₂ : Shared} {H₂ : Hp} {fpi : List Addr} {XE : Value → Shared → Prop} {X' : Cx} {RR : Result → Shared → Prop} (hX : X' = blkX X scope C cells s₂ H₂ fpi XE)
    (hXE : XE = notedBy (model X.prog X.w) X.A (blkEnv scope X.env C cells) fun e s' => RR (.error e) s') (bt : QG X' tg ks g) (be : QEX X' W elt f) (ok' : X'.Ok)
    {σ : L2.St} {O₂ : Addr → Prop} {fp₂ : Nat → List Addr} {J : It} {its : List Slot} {i0 : Addr} {tn : Nat → Heap → Prop}
    (T : Turn X.prog X.w X.K tg J fpi i0 tn) (Wk : Walk X.K J its H₂ O₂ fp₂) (hz : its.length < big) (hl₂ : ∀ b, O₂ b → ∃ vs, H₂ b = some (.lst vs)) (hacc : H₂ acc = none) {o : CR}
    (k : ∀ ds ρe, o = .ok ds ρe → ∀ σ' H' O' fp' vs s', Inv X' [] σ' H' s' → Rel X.K B ρe σ' H' O' fp' → Agr ks σ σ' → Fr H₂ O₂ fp₂ H' O' fp' → H' acc = some (.lst vs) → fl O' fp' acc → IsL X.K H' ds vs → RR (.ok .next) s')
    (kx : ∀ c, o = .ex c → ∀ ρ' σ' H' O' fp', Rel X.K B ρ' σ' H' O' fp' → W c H') {s : Shared} {n : Nat}
    (h : BInvX X X' B ks g f its fpi tn acc σ H₂ O₂ fp₂ o n s) :
    codeAny (model X.prog X.w) X.A (.compLoop (.ListComp elt [⟨tg, iter, [], 0⟩] scope pos) 0 (.ref i0) (.ref acc) (blkEnv scope X.env C cells)) RR s := by
  subst hX
  refine loop_anyX (BInvX X (blkX X scope C cells s₂ H₂ fpi XE) B ks g f its fpi tn acc σ H₂ O₂ fp₂ o) hXE ?_ n h
  rintro n s1 ⟨i, σ', H', O', fp', ρ', dn, o', vs, rfl, hi, I, st, fr, R', ag, F', ha, hfl, hd, hdl, hL, rfl⟩
  have stat : ∀ {H' : Hp}, (∀ b ∈ fpi, H' b = none) → ∀ b ∈ fpi, FpOk (blkX X scope C cells s₂ H₂ fpi XE) [] H' b := fun hn b hb =>
    ⟨hn b hb, (ok'.exf b hb).1, ok'.exfs b hb, .inl hb, (ok'.exf b hb).2, fun p hp => absurd (show p ∈ ([] : List (Addr × Obj)) ++ [] from hp) (by simp)⟩
  by_cases hlt : i < its.length
  · have hd' : its.drop i = its[i] :: its.drop (i + 1) := List.drop_eq_getElem_cons hlt
    rw [hd'] at hL
    obtain ⟨ρ1, q1, hL⟩ := bind_some hL
    obtain ⟨z, q3, hL⟩ := bind_some hL
    obtain ⟨g1, g2⟩ := Wk.go H' O' fp' F' i its[i] (by simp [hlt])
    refine thn (T.item (blkX X scope C cells s₂ H₂ fpi XE) rfl rfl rfl hc i [] s1 σ' H' XE I (stat fr) st g1) fun r s2 ⟨u, hr, h4⟩ => ?_
    subst hr
    refine thn h4 fun _ s5 ⟨x, H5, I5, r5, y5, st5, fr5⟩ => ?_
    obtain ⟨sm, sl⟩ := g2 x H5 y5
    have I5' := I5.pinned (stat fr5) (T.obj _ _ st5)
    refine thn (bt _ s5 σ' H5 x u (fun σ6 H6 => ∃ O6 fp6, Agr ks σ' σ6 ∧ Rel X.K B ρ1 σ6 H6 O6 fp6 ∧ Fr H5 O' fp' H6 O6 fp6) I5' r5 ⟨B, ρ', O', fp', its[i], ρ1, R'.grow sm, sl, q1, fun σ6 H6 O6 fp6 A6 R6 F6 => ⟨O6, fp6, A6, R6, F6⟩⟩) fun _ s6 ⟨σ6, H6, I6, O6, fp6, A6, R6, F6⟩ => ?_
    have F57 : Fr H' O' fp' H6 O6 fp6 := (Fr.grow R' sm).trans F6
    have ag6 : Agr ks σ σ6 := ⟨A6.1.trans ag.1, fun j hj => (A6.2 j hj).trans (ag.2 j hj)⟩
    have back : ∀ {H9 : Hp} {O9 : Addr → Prop} {fp9 : Nat → List Addr} {ρ9 : En} {dn9 : List D} {o9 : CR} {vs9 : List V} {s9 : Shared}, Inv (blkX X scope C cells s₂ H₂ fpi XE) ([] ++ pinsAt fpi s5.heap) σ6 H9 s9 → Rel X.K B ρ9 σ6 H9 O9 fp9 → Fr H₂ O₂ fp₂ H9 O9 fp9 →
        H9 acc = some (.lst vs9) → fl O9 fp9 acc → IsL X.K H9 dn9 vs9 → dn9.length ≤ i + 1 → compLX g f (its.drop (i + 1)) ρ9 = some o9 → preC dn o' = preC dn9 o9 →
        ∃ m, m < its.length - i ∧ BInvX X (blkX X scope C cells s₂ H₂ fpi XE) B ks g f its fpi tn acc σ H₂ O₂ fp₂ (preC dn o') m s9 := fun {H9 O9 fp9 ρ9 dn9 o9 vs9 s9} I9 R9 F9 a9 f9 d9 l9 c9 e9 => by
      refine ⟨its.length - (i + 1), by omega, i + 1, σ6, H9, O9, fp9, ρ9, dn9, o9, vs9, rfl, hlt, I9.unpinned, T.keep _ _ _ st5 fun b hb o e => (I9.pin (b, o) (List.mem_append_right _ (List.mem_append_right _ (mem_pinsAt hb e)))).1, fun b hb => ?_, R9, ag6, F9, a9, f9, d9, l9, c9, e9⟩
      obtain ⟨o, e, d⟩ := T.obj _ _ st5 b hb
      exact (I9.pin (b, o) (List.mem_append_right _ (List.mem_append_right _ (mem_pinsAt hb e)))).2.1
    cases z with
    | x c =>
      cases hL
      exact wpAny_mono (be _ s6 σ6 H6 (fun _ _ => False) I6 ⟨B, ρ1, O6, fp6, .x c, R6, q3, kx c rfl⟩) (fun _ _ ⟨_, _, _, _, z⟩ => z.elim) fun _ _ z => z
    | v r ρ3 =>
      refine thn (be _ s6 σ6 H6 (fun v H8 => ∃ O8 fp8, Rel X.K B ρ3 σ6 H8 O8 fp8 ∧ ResOk X.K H8 O8 fp8 σ6 (fl O6 fp6) r v ∧ Fr H6 O6 fp6 H8 O8 fp8) I6 ⟨B, ρ1, O6, fp6, .v r ρ3, R6, q3, fun v H8 O8 fp8 R8 k8 F8 => ⟨O8, fp8, R8, k8, F8⟩⟩) fun u8 s8 ⟨v, H8, I8, r8, O8, fp8, R8, k8, F8⟩ => ?_
      cases r with
      | bor j => cases hL
      | of sl2 =>
        cases sl2 with
        | val d =>
          have hL' : ((compLX g f (its.drop (i + 1)) ρ3).bind fun w => some (preC [d] w)) = some o' := hL
          obtain ⟨o9, q4, hL'⟩ := bind_some hL'
          cases hL'
          have F58 := F57.trans F8
          obtain ⟨ea8, oa8, na8⟩ := F58.flt acc hfl.1 hfl.2
          obtain ⟨_, ⟨hv, _⟩, _⟩ := k8
          have d8 := hd.tk (F58.tk R'.lst)
          have ea : H8 acc = some (.lst vs) := ea8.trans ha
          refine thn (mt_append (X := blkX X scope C cells s₂ H₂ fpi XE) _ s8 σ6 H8 (.ref acc) [v] (.ref acc) [u8] (fun _ H9 => H9 = L2.upd H8 acc (.lst (vs ++ [v]))) I8 rfl (.cons r8 .nil) ⟨acc, vs, v, rfl, rfl, ea, by rw [hd.length]; exact big_line (by omega), rfl⟩) fun u9 s9 ⟨v9, H9, I9, r9, e9⟩ => ?_
          subst e9
          exact back I9 (R8.updF ea ⟨oa8, na8⟩) ((F'.trans F58).updN hl₂ hacc) upd_same ⟨oa8, na8⟩ ((d8.append (.cons hv .nil)).tk (tk_upd ea)) (by rw [List.length_append]; simp; omega) q4 (preC_preC _ _ _)
        | _ => cases hL
  · have e : i = its.length := by omega
    subst e
    rw [List.drop_length] at hL
    cases hL
    refine thn (T.done (blkX X scope C cells s₂ H₂ fpi XE) rfl rfl rfl hc its.length [] s1 σ' H' XE I (stat fr) st (Wk.stop H' O' fp' F')) fun r s4 ⟨hr, I4⟩ => ?_
    subst hr
    exact k _ _ rfl σ' H' O' fp' vs s4 I4 R' ag F' ha hfl (by simpa using hd)
end
theorem funs_to {h h' G G' : Heap} : ∀ {l : List PySem.Env}, h.FunFrames G l → (∀ b ∈ l.filterMap (·.frame), ∀ o, h.get? b = some o → h'.get? b = some o) → (∀ b, G.get? b = none → G'.get? b = none) → h'.FunFrames G' l
  | [], _, _, _ => trivial
  | env :: r, ⟨hk, ⟨L, o, hf, hn, ho, hd⟩, hr⟩, k, g => by
    have m : (env :: r).filterMap (·.frame) = L :: r.filterMap (·.frame) := List.filterMap_cons_some hf
    refine ⟨hk, ⟨L, o, hf, g L hn, k L (by rw [m]; simp) o ho, hd⟩, funs_to hr (fun b hb => k b (by rw [m]; exact List.mem_cons_of_mem _ hb)) g⟩
section
variable {X : Cx} {scope : Scope} {C : Addr} {cells : List (Str × Addr)} {s₂ : Shared} {H₂ : Hp} {fpi : List Addr} {pins : List (Addr × Obj)} {E : XK} {acc : Value} {Q : Value → Shared → Prop}
theorem lands_blk (L : Lands X E) (I0 : Inv X pins σ H₂ s₂) (hst : X.stack = X.env :: X.outer) (hfr : X.env.frame = some X.env.locals) (fo : ∀ b ∈ fpi, FpOk X pins H₂ b) (hC : s₂.heap.objs.size ≤ C) :
    Lands (blkX X scope C cells s₂ H₂ fpi (notedBy (model X.prog X.w) X.A (blkEnv scope X.env C cells) fun e s' => compPost (model X.prog X.w) X.A X.xe none Q acc C (.error e) s')) E := fun pins' σ' H s e C' a0 x2 fl G I x c1 c2 c3 hn hE => by
  have hA : X.A.frames = some (X.env :: X.outer) := hst ▸ I0.ok.frames
  have x : Fly G (X.env :: X.outer) e C' a0 x2 fl s.heap := by rw [← hst]; exact x
  have b0 : Un (frs X.stack) fpi H₂ H s₂.heap s.heap := I.base
  have hN : noteFrame (.ref e) (blkEnv scope X.env C cells) = noteFrame (.ref e) X.env := rfl
  show wpAny _ _ (noteFrame (.ref e) (blkEnv scope X.env C cells)) _ _ s
  rw [hN]
  refine note hA hfr x fun h4 x4 u4 => ?_
  obtain ⟨m, hm, _⟩ := id I.loc
  have hm : s.heap.Ns C m := hm
  have hm4 : h4.Ns C m := u4.ns hm
  refine ⟨m, hm4, fun h' sb cenv hcl => ?_⟩
  have lt2 : ∀ b o, s₂.heap.get? b = some o → b ≠ C := fun b o q => Nat.ne_of_lt (Nat.lt_of_lt_of_le (Heap.lt_size q) hC)
  have same : ∀ b o, b ≠ C → h4.get? b = some o → h'.get? b = some o := fun b o hb q => (sb.2 b hb).trans q
  have frL : ∀ b ∈ frs X.stack, ∃ o, s₂.heap.get? b = some o ∧ ∀ vs, o.data ≠ .fields vs := fun b hb => (I0.stack.mem (b := b) hb).2
  have gC : ∀ b o, (PySem.W.hideAll G [C]).get? b = some o → G.get? b = some o ∧ b ≠ C := fun b o q => ⟨PySem.W.of_hideAll _ q, fun z => by
    subst z
    have := PySem.W.of_hideAll (h := G.hide b) [] (b := b) (o := o) q
    rw [Heap.hide_self] at this; cases this⟩
  have toG : ∀ b o, G.get? b = some o → b ≠ C → (PySem.W.hideAll G [C]).get? b = some o := fun b o q hb => PySem.W.hideAll_get _ q fun z => hb (by simpa using z)
  have nG : ∀ b, G.get? b = none → (PySem.W.hideAll G [C]).get? b = none := fun b q => by
    cases z : (PySem.W.hideAll G [C]).get? b with
    | none => rfl
    | some o =>
      have := (gC b o z).1
      rw [q] at this; cases this
  have fieldsNe : ∀ b o vs, h4.get? b = some o → o.data = .fields vs → b ≠ C := fun b o vs q hd z => by
    obtain ⟨o', es, ep, ho, hd', _⟩ := hm4
    rw [z, ho] at q; cases q
    rw [hd] at hd'; cases hd'
  have x' : Fly (PySem.W.hideAll G [C]) X.stack e C' a0 x2 (rawInt X.env.locals) h' := by
    rw [hst]
    refine ⟨fun b o q => same b o (gC b o q).2 (x4.stays b o (gC b o q).1), nG e x4.new, funs_to x4.frames (fun b hb o q => ?_) nG, ?_⟩
    · obtain ⟨o', q', _⟩ := frL b (by rw [hst]; exact hb)
      exact same b o (lt2 b o' q') q
    · obtain ⟨oe, vs, T, oT, ts, h1, h2, h3, h4', h5, h6, h7, h8, h9, h10⟩ := x4.tr
      exact ⟨oe, vs, T, oT, ts, same e oe (fieldsNe e oe vs h1 h3) h1, h2, h3, h4', nG T h5, h6, same T oT (fieldsNe T oT ts h7 h8) h7, h8, h9, h10⟩
  refine goes_on (s := { s with heap := h' }) x' fun h5 x5 u5 => ?_
  have c3' : ∀ b u, H b = some u → ∃ o, (PySem.W.hideAll G [C]).get? b = some o := fun b u q => by
    obtain ⟨o, q1⟩ := c3 b u q
    refine ⟨o, toG b o q1 fun z => ?_⟩
    have fC : H C = none := I.free
    rw [z, fC] at q; cases q
  have slots : ∀ b ∈ frs X.stack, ∀ o, s₂.heap.get? b = some o → ∀ sl, s.heap.get? b = some { o with slots := sl } → ∃ sl, h5.get? b = some { o with slots := sl } := fun b hb o q sl q1 => by
    obtain ⟨o', q', hd⟩ := frL b hb
    rw [q] at q'; cases q'
    obtain ⟨sl2, q2⟩ := u4 b _ q1 hd
    obtain ⟨sl3, q3⟩ := u5 b _ (same b _ (lt2 b o q) q2) hd
    exact ⟨sl3, q3⟩
  have I5 : Inv X pins σ H { s with heap := h5 } := by
    refine I0.call' (s' := { s with heap := h5 }) (ch := fpi) I.os ⟨fun b o q n hb hx => x5.stays b o (toG b o (c1 b o q hb n hx) (lt2 b o q)), fun b o q n hb hx => ?_, b0.free, fun b o q hx => ?_, b0.tups, b0.frzs, b0.tbls⟩ (hok_land I.hok (fun b o q => x.stays b o (gC b o q).1) x5.stays c3') I.bare fun b hb => ⟨(fo b hb).2.2.2.1, (fo b hb).2.1, (fo b hb).2.2.2.2.1, (fo b hb).2.2.2.2.2⟩
    · obtain ⟨sl, q1⟩ := b0.slot b o q n hb hx
      exact slots b hb o q sl q1
    · by_cases hb : b ∈ frs X.stack
      · obtain ⟨sl, q1⟩ := b0.slot b o q (I0.stkFree b hb) hb hx
        obtain ⟨sl2, q2⟩ := slots b hb o q sl q1
        exact ⟨_, q2⟩
      · obtain ⟨o', q1⟩ := c2 b o q hb hx
        exact ⟨o', x5.stays b o' (toG b o' q1 (lt2 b o q))⟩
  have nfp : ∀ b o, X.s₀.heap.get? b = some o → b ∉ X.ex → b ∉ fpi := fun b o q hx z => by
    rcases (fo b z).2.2.2.1 with w | w
    · exact hx w
    · exact absurd (Heap.lt_size q) (Nat.not_lt.mpr w)
  refine L pins σ H _ e C' a0 x2 _ _ I5 x5 (fun b o q hb n hx => ?_) (fun b o q hb hx => ?_) c3' hn hE
  · have q2 := I0.base.keep b o q n hb hx
    exact toG b o (c1 b o q2 (old_ne I0.ok q hb) (I0.base.free b o q n hx) (nfp b o q hx)) (lt2 b o q2)
  · obtain ⟨o', q2⟩ := I0.base.there b o q hx
    obtain ⟨o2, q3⟩ := c2 b o' q2 (old_ne I0.ok q hb) (nfp b o q hx)
    exact ⟨o2, toG b o2 q3 (lt2 b o' q2)⟩
end
noncomputable def tQIX (K : PySem.W.Frag) (W : Str → Hp → Prop) (f : MXI) : TI := fun σ H R => ∃ B ρ O fp o, Rel K B ρ σ H O fp ∧ f ρ = some o ∧
  match o with
  | .v its ρ' => ∀ J H' O' fp', Rel K B ρ' σ H' O' fp' → Fr H O fp H' O' fp' → Walk K J its H' O' fp' → R J H'
  | .x c => ∀ ρ' σ' H' O' fp', Rel K B ρ' σ' H' O' fp' → W c H'
noncomputable abbrev QIX (X : Cx) (W : Str → Hp → Prop) (tg e : Expr) (f : MXI) : Prop := PI X tg e (tQIX X.K W f)
noncomputable def mItX (f : MXE) : MXI := fun ρ => (f ρ).bind fun o => match o with
  | .v (.of (.own ds)) ρ' => some (.v (ds.map .val) ρ')
  | .v _ _ => none
  | .x c => some (.x c)
section
variable {X : Cx} {W : Str → Hp → Prop} {tg e elt iter : Expr} {scope : Scope} {pos : Pos} {ks : List Nat} {g : MG} {f : MXE} {it : MXI}
theorem qix_seq {f : MXE} (h : QEX X W e f) : QIX X W tg e (mItX f) := (pi_seq h).imp fun σ H Rr ⟨B, ρ, O, fp, o, R, hf, k⟩ => by
  obtain ⟨r, h1, hf⟩ := bind_some hf
  refine ⟨B, ρ, O, fp, r, R, h1, ?_⟩
  cases r with
  | x c => cases hf; exact k
  | v r ρ1 =>
    cases r with
    | bor j => cases hf
    | of sl =>
      cases sl with
      | own ds =>
        cases hf
        intro v H1 O1 fp1 R1 k1 F1
        obtain ⟨f, ⟨a, vs, e, q, l, rfl⟩, nd, hfl⟩ := k1
        exact ⟨a, e, .inl ⟨⟨vs, SqL.of q⟩, k _ H1 O1 fp1 R1 F1 (walk_lst R1.lst (.inr ⟨q, (hfl a (by simp)).1⟩) l)⟩⟩
      | _ => cases hf
structure BlkX (X : Cx) (W : Str → Hp → Prop) (scope : Scope) (ks : List Nat) (tg elt : Expr) (g : MG) (f : MXE) : Prop where
  ok : CompOk scope X.env.scope.names X.N ks
  tg : ∀ C cells s₂ H₂ ex XE, QG (blkX X scope C cells s₂ H₂ ex XE) tg ks g
  elt : ∀ C cells s₂ H₂ ex XE, Lands (blkX X scope C cells s₂ H₂ ex XE) (xkOf X.mg W) → QEX (blkX X scope C cells s₂ H₂ ex XE) W elt f
theorem qe_compX (L : Lands X (xkOf X.mg W)) (hst : X.stack = X.env :: X.outer) (hfr : X.env.frame = some X.env.locals) (hc : X.calm = true) (hi : QIX X W tg iter it) (b : BlkX X W scope ks tg elt g f) (hs : ∀ x, foldedSetIterable iter X.env x = pure x := by intro _; rfl) :
    QEX X W (.ListComp elt [⟨tg, iter, [], 0⟩] scope pos) (mCompX ks g it f) := by
  intro pins s σ H Q I ⟨B, ρ, O, fp, o, R, hf, k⟩
  obtain ⟨i, h1, hf⟩ := bind_some hf
  rw [eval_ListComp]
  refine wpAny_comprehension_free (use := none) rfl hs (closure_pure fun x hx => I.ok.has x (b.ok.free x hx)) b.ok.kind (names_of b.ok) ?_
  cases i with
  | x c =>
    cases hf
    refine wpAny_mono (hi pins s σ H (fun J H' => False) I ⟨B, ρ, O, fp, .x c, R, h1, k⟩) (fun v s1 q1 => wpAny_mono q1 (fun itv s2 q2 => ?_) fun _ _ z => z) fun _ _ z => z
    obtain ⟨i0, fpi, tn, J, H2, e, I2, T, st2, f2, z⟩ := q2
    exact z.elim
  | v its ρ₂ =>
    have hf' : (if its.length < big ∧ ks.all (plainAt ρ₂) = true then (compLX g f its (maskE ks ρ₂)).bind fun w => match w with
      | .ok ds ρe => if ks.all (noOwn ρe) = true then some (RX.v (.of (.own ds)) (unmask ks ρ₂ ρe)) else none
      | .ex c => some (.x c)
      else none) = some o := hf
    by_cases hzp : its.length < big ∧ ks.all (plainAt ρ₂) = true
    · rw [if_pos hzp] at hf'
      obtain ⟨hz, hp⟩ := hzp
      obtain ⟨w, hL, hf'⟩ := bind_some hf'
      refine thn (hi pins s σ H (fun J H' => ∃ O' fp', Rel X.K B ρ₂ σ H' O' fp' ∧ Fr H O fp H' O' fp' ∧ Walk X.K J its H' O' fp') I ⟨B, ρ, O, fp, .v its ρ₂, R, h1, fun J H' O' fp' R' F' W' => ⟨O', fp', R', F', W'⟩⟩) fun v s1 q1 => thn q1 fun itv s₂ q2 => ?_
      obtain ⟨i0, fpi, tn, J, H₂, e, I2, T, st, fo, O₂, fp₂, R2, F2, Wk⟩ := q2
      subst e
      have hobj : ∀ b ∈ fpi, ∃ o, s₂.heap.get? b = some o := fun b hb => let ⟨o, h, _⟩ := T.obj 0 _ st b hb; ⟨o, h⟩
      refine wpAny_newObj_type (nfe ?_)
      have ez : (s₂.heap.push { cls := .type "list", dict := none, data := .seq ([] : List Value).toArray }).objs.size = s₂.heap.objs.size + 1 := Heap.size_push ..
      dsimp only
      rw [ez]
      generalize hRR : compPost (model X.prog X.w) X.A X.xe none (fun v s' => EP X pins σ Q v s') (.ref s₂.heap.objs.size) (s₂.heap.objs.size + 1) = RR
      have hXE : (notedBy (model X.prog X.w) X.A (blkEnv scope X.env (s₂.heap.objs.size + 1) (cellsFrom (s₂.heap.objs.size + 2) scope.names (clF X.env.cells scope.names []))) fun e s' => compPost (model X.prog X.w) X.A X.xe none (fun v s' => EP X pins σ Q v s') (.ref s₂.heap.objs.size) (s₂.heap.objs.size + 1) (.error e) s') =
        notedBy (model X.prog X.w) X.A (blkEnv scope X.env (s₂.heap.objs.size + 1) (cellsFrom (s₂.heap.objs.size + 2) scope.names (clF X.env.cells scope.names []))) fun e s' => RR (.error e) s' := by rw [hRR]
      have LB := lands_blk (scope := scope) (cells := cellsFrom (s₂.heap.objs.size + 2) scope.names (clF X.env.cells scope.names [])) (acc := .ref s₂.heap.objs.size) (Q := fun v s' => EP X pins σ Q v s') L I2 hst hfr fo (Nat.le_succ _)
      rw [hXE] at LB
      have I1 := inv_blkX (XE := notedBy (model X.prog X.w) X.A (blkEnv scope X.env (s₂.heap.objs.size + 1) (cellsFrom (s₂.heap.objs.size + 2) scope.names (clF X.env.cells scope.names []))) fun e s' => RR (.error e) s') (blk_start (ks := ks) I2 b.ok hc fo hobj)
      have hfr' : H₂ s₂.heap.objs.size = none := I2.hok.fresh (Nat.le_refl _)
      have n1 : ∀ a, a = s₂.heap.objs.size → H₂ a = none := fun a z => by rw [z]; exact hfr'
      have sm := same_new hfr' (.lst [])
      have start : BInvX X (blkX X scope (s₂.heap.objs.size + 1) (cellsFrom (s₂.heap.objs.size + 2) scope.names (clF X.env.cells scope.names [])) s₂ H₂ fpi (notedBy (model X.prog X.w) X.A (blkEnv scope X.env (s₂.heap.objs.size + 1) (cellsFrom (s₂.heap.objs.size + 2) scope.names (clF X.env.cells scope.names []))) fun e s' => RR (.error e) s')) B ks g f its fpi tn s₂.heap.objs.size σ H₂ O₂ fp₂ w its.length
          { s₂ with heap := pushCells ((s₂.heap.push { cls := .type "list", data := .seq ([] : List Value).toArray }).push { cls := .type "dict", data := .dict #[] }) scope.names } := by
        have Rm := R2.mask ks
        rw [plain_foot R2 hp] at Rm
        refine ⟨0, maskS ks σ, _, fun a => O₂ a ∨ a = s₂.heap.objs.size, fp₂, maskE ks ρ₂, [], w, [], by simp, Nat.zero_le _, I1, ?_, fun b hb => ?_, Rm.take sm n1 fun a z => ⟨[], by rw [z]; exact upd_same⟩, ⟨mask_get.1, fun j hj => mask_get.2.1 j hj⟩, Fr.take R2 sm n1, upd_same, ⟨.inr rfl, fun i z => ?_⟩, .nil, Nat.le_refl _, by simpa using hL, by cases w <;> rfl⟩
        · exact T.keep 0 _ _ st fun b hb o e => pushCells_keeps _ _ _ _ (Heap.get?_push_of_some _ (Heap.get?_push_of_some _ e))
        · obtain ⟨o, ho⟩ := hobj b hb
          rw [upd_ne (Nat.ne_of_lt (Heap.lt_size ho))]
          exact (fo b hb).1
        · obtain ⟨vs, e⟩ := R2.lst _ (R2.sub i _ z)
          rw [hfr'] at e; cases e
      have loop := blk_loopX (pos := pos) (iter := iter) (W := W) (RR := RR) hc rfl rfl (b.tg (s₂.heap.objs.size + 1) (cellsFrom (s₂.heap.objs.size + 2) scope.names (clF X.env.cells scope.names [])) s₂ H₂ fpi _) (b.elt _ _ _ _ _ _ LB) I1.ok T Wk hz R2.lst hfr'
        (fun ds ρe hw σ' H' O' fp' vs s' I' R' ag F' ha hfl hd => by
          subst hw
          have hf2 : (if ks.all (noOwn ρe) = true then some (RX.v (.of (.own ds)) (unmask ks ρ₂ ρe)) else none) = some o := hf'
          by_cases hn : ks.all (noOwn ρe) = true
          · rw [if_pos hn] at hf2
            cases hf2
            have Ib : Inv X pins σ H' s' := I2.call' (ch := fpi) I'.os I'.base I'.hok I'.bare fun b hb => ⟨(fo b hb).2.2.2.1, (fo b hb).2.1, (fo b hb).2.2.2.2.1, (fo b hb).2.2.2.2.2⟩
            have fC : FpOk X pins H' (s₂.heap.objs.size + 1) := I2.fpOk (Nat.le_succ _) I'.free
            obtain ⟨m, hm, _⟩ := I'.loc
            rw [← hRR]
            refine ⟨m, hm, fun h' sb => ⟨.ref s₂.heap.objs.size, H', ?_, rfl, k _ H' O' fp' (Rel.unmask R2 hp R' ag (F'.tk R2.lst) hn) ⟨[s₂.heap.objs.size], ⟨_, vs, rfl, ha, hd, rfl⟩, by simp, fun a z => ?_⟩ (F2.trans F')⟩⟩
            · exact Ib.turned (t' := s'.toks) (fun b o hb e => (sb.2 b hb).trans e) fC.1 fC.2.1 fC.2.2.2.1 fC.2.2.2.2.1 fC.2.2.2.2.2
            · have z' : a = s₂.heap.objs.size := by simpa using z
              subst z'
              refine ⟨hfl, fun z => ?_⟩
              obtain ⟨us, e⟩ := R2.lst _ (F2.fl _ z).1
              rw [hfr'] at e; cases e
          · rw [if_neg hn] at hf2; cases hf2)
        (fun c hw => by
          subst hw
          cases hf'
          exact k) start
      subst hRR
      exact codeAny_compStart_list loop (T.self _ 0 _ _ _ (T.keep 0 _ _ st fun b hb o e => pushCells_keeps _ _ _ _ (Heap.get?_push_of_some _ (Heap.get?_push_of_some _ e))) loop)
    · rw [if_neg hzp] at hf'; cases hf'
end
end Mi
namespace Mi
open PySem L2
open PySem.Spec
theorem entry_unchain : entryFor table "proto.unchain" = some Builtin.«proto.unchain» := entryFor_of_tree (by kernel_rfl)
section
variable {prog : Program} {w : World} {A : Around} {E : Value → Shared → Prop} {s : Shared} {env : PySem.Env}
variable {nm q : Str} {C N : Addr} {bs bm : List Value} {hdct : Bool} {sn : List Str} {sub : List Value} {ab : Bool} {col : Option Bool} {dd : Option Addr} {k0 k1 k2 k3 k5 : Option Value} {newId : String}
variable {nm' q' : Str} {C' N' : Addr} {bs' bm' : List Value} {hdct' : Bool} {sn' : List Str} {sub' : List Value} {ab' : Bool} {col' : Option Bool} {dd' : Option Addr} {l0 l1 l2 l3 l5 : Option Value} {newId' : String}
theorem unchain {e a : Addr} {oa : Obj} {vs : Array Value} {Q : Value → Shared → Prop} (ha : s.heap.get? a = some oa) (hd : oa.data = .fields vs) (h2 : vs[2]? = some .none) (h : Q .none s) :
    wpAny (model prog w) A (runValue (.builtin "proto.unchain" ⟨[.ref e, .ref a, .ref a, .bool false], []⟩)) Q E s := by
  refine wpAny_runValue (codeAny_builtin entry_unchain ?_)
  unfold Builtin.«proto.unchain»
  refine wpAny_bind (wpAny_field ha hd h2 ?_)
  rw [if_pos (by decide)]
  exact wpAny_pure h
theorem contains_ref {c : Addr} {l : List Value} {T : String} {b : Bool} (h : l.contains (.type T) = b) : (Value.ref c :: l).contains (.type T) = b := by
  rw [List.contains_cons, h]
  rfl
section
variable {hp : Heap} {g : Array GenState} {d : Drawn} {tk : Nat} {os : OsState} {e : Addr} {oe : Obj} {vs : Array Value}
theorem no_type {Q : Bool → Shared → Prop} (hC : hp.get? C = some (excClassObj nm q C N bs bm hdct sn sub ab col dd k0 k1 k2 k3 k5 newId)) (he : hp.get? e = some oe) (hd : oe.data = .fields vs) (hcl : oe.cls = .ref C) (h : Q false ⟨hp, g, d, tk, os⟩) :
    wpAny (model prog w) A (isType (.ref e)) Q E ⟨hp, g, d, tk, os⟩ := by
  unfold isType
  repeat (first | (with_reducible refine wpAny_loadPart_at he ?_) | wp_step)
  rw [hd]
  exact h
theorem exc_from {msg : String} {Q : Value → Shared → Prop} (hC : hp.get? C = some (excClassObj nm q C N bs bm hdct sn sub ab col dd k0 k1 k2 k3 k5 newId)) (he : hp.get? e = some oe) (hd : oe.data = .fields vs) (hcl : oe.cls = .ref C) (hb : bm.contains (.type "BaseException") = true) (h : Q (.ref e) ⟨hp, g, d, tk, os⟩) :
    wpAny (model prog w) A (excFromValue (.ref e) msg) Q E ⟨hp, g, d, tk, os⟩ := by
  have c1 := contains_ref (c := C) hb
  unfold excFromValue isExcClass
  refine wpAny_bind (wpAny_bind (no_type hC he hd hcl (wpAny_pure ?_)))
  rw [if_neg Bool.false_ne_true]
  unfold isInstance
  repeat (first | (with_reducible refine wpAny_loadPart_at he ?_; rw [hcl]) | with_reducible refine wpAny_loadPart_at hC ?_ | (with_reducible refine wpAny_isSubtype_exc hC ?_; rw [c1]) | wp_step)
  exact h
theorem raised_inst {Q : Value → Shared → Prop} (hC : hp.get? C = some (excClassObj nm q C N bs bm hdct sn sub ab col dd k0 k1 k2 k3 k5 newId)) (he : hp.get? e = some oe) (hcl : oe.cls = .ref C) (h : Q (.ref e) ⟨hp, g, d, tk, os⟩) :
    wpAny (model prog w) A (raisedInstance (.ref e)) Q E ⟨hp, g, d, tk, os⟩ := by
  unfold raisedInstance
  repeat (first | (with_reducible refine wpAny_loadPart_at he ?_; rw [hcl]) | with_reducible refine wpAny_loadPart_at hC ?_ | wp_step)
  exact h
end
theorem raise_new {α : Type} {e a : Addr} {oa oe : Obj} {vs ws : Array Value} {Q : α → Shared → Prop} (hh : A.handled = some (.ref a)) (ne : a ≠ e) (ha : s.heap.get? a = some oa) (hd : oa.data = .fields vs) (h2 : vs[2]? = some .none) (he : s.heap.get? e = some oe) (hde : oe.data = .fields ws) (hz : 2 < ws.size)
    (h : E (.ref e) { s with heap := s.heap.update e (Obj.mapFields (·.setIfInBounds 2 (.ref a))) }) : wpAny (model prog w) A (raiseNew (.ref e) : Sem α) Q E s := by
  unfold raiseNew
  refine wpAny_bind (wpAny_handled ?_)
  rw [hh]
  dsimp only
  rw [if_pos (by simp [ne])]
  refine wpAny_bind (wpAny_holding (unchain ha hd h2 ?_))
  refine wpAny_bind ?_
  have := wpAny_setField (M := model prog w) (A := A) (E := E) (i := 2) (x := .ref a) (Q := fun _ s' => wpAny (model prog w) A (throw (.ref e) : Sem α) Q E s') he hde hz (wpAny_throw h)
  unfold setField at this
  exact this
theorem raiseStmt_from {x c : Sem Value} {a : Addr} {oa : Obj} {vs : Array Value} {Q : Flow → Shared → Prop} (hb : bm.contains (.type "BaseException") = true) (hb' : bm'.contains (.type "BaseException") = true) (hh : A.handled = some (.ref a))
    (h : wpAny (model prog w) A x (fun v s₁ => ∃ e t, v = .ref e ∧ wpAny (model prog w) A c (fun v2 s₂ => v2 = .ref a ∧ a ≠ e ∧ C ≠ e ∧ s₂.heap.get? C = some (excClassObj nm q C N bs bm hdct sn sub ab col dd k0 k1 k2 k3 k5 newId) ∧
      s₂.heap.get? C' = some (excClassObj nm' q' C' N' bs' bm' hdct' sn' sub' ab' col' dd' l0 l1 l2 l3 l5 newId') ∧
      s₂.heap.get? e = some { cls := .ref C, data := .fields #[.ref t, .none, .none, .none, .bool false, .none] } ∧ s₂.heap.get? a = some oa ∧ oa.cls = .ref C' ∧ oa.data = .fields vs ∧ vs[2]? = some .none ∧
      ∀ h', (∀ b, b ≠ e → h'.get? b = s₂.heap.get? b) → h'.get? e = some { cls := .ref C, data := .fields #[.ref t, .none, .ref a, .ref a, .bool true, .none] } → E (.ref e) { s₂ with heap := h' }) E s₁) E s) :
    wpAny (model prog w) A (raiseStmt env (some x) (some c)) Q E s := by
  unfold raiseStmt
  refine wpAny_bind (wpAny_mono h (fun v s₁ h₁ => ?_) fun _ _ x => x)
  obtain ⟨e, t, rfl, h₁⟩ := h₁
  refine wpAny_bind (wpAny_holding (wpAny_mono h₁ (fun v s₂ h₂ => ?_) fun _ _ x => x))
  obtain ⟨rfl, ne, nC, hC, hC', he, ha, hcl, hd, h2, hE⟩ := h₂
  obtain ⟨hp, g, d, tk, os⟩ := s₂
  dsimp only at hC hC' he ha hE
  refine wpAny_bind (wpAny_pure (wpAny_bind (wpAny_holding (exc_from hC he rfl rfl hb ?_))))
  dsimp only
  rw [if_neg (by simp)]
  refine wpAny_bind (wpAny_holding (exc_from hC' ha hd hcl hb' ?_))
  refine wpAny_bind (wpAny_setField he rfl (by simp) ?_)
  have d1 := Obj.data_mapFields (o := { cls := .ref C, data := .fields #[.ref t, .none, .none, .none, .bool false, .none] }) rfl (·.setIfInBounds 3 (Value.ref a))
  have e1 := Heap.get?_update_self (Obj.mapFields (·.setIfInBounds 3 (Value.ref a))) he (Obj.isFreed_of_fields d1)
  refine wpAny_bind (wpAny_setField e1 d1 (by simp) ?_)
  have d2 := Obj.data_mapFields d1 (·.setIfInBounds 4 (Value.bool true))
  have e2 := Heap.get?_update_self (Obj.mapFields (·.setIfInBounds 4 (Value.bool true))) e1 (Obj.isFreed_of_fields d2)
  have other2 : ∀ b, b ≠ e → ((hp.update e (Obj.mapFields (·.setIfInBounds 3 (Value.ref a)))).update e (Obj.mapFields (·.setIfInBounds 4 (Value.bool true)))).get? b = hp.get? b := fun b hb => (Heap.get?_update_other _ _ (Ne.symm hb)).trans (Heap.get?_update_other _ _ (Ne.symm hb))
  have cl2 : (Obj.mapFields (·.setIfInBounds 4 (Value.bool true)) (Obj.mapFields (·.setIfInBounds 3 (Value.ref a)) { cls := .ref C, data := .fields #[.ref t, .none, .none, .none, .bool false, .none] })).cls = .ref C := rfl
  have hC2 := (other2 C nC).trans hC
  dsimp only at e2 ⊢
  refine wpAny_bind (no_type hC2 e2 d2 cl2 ?_)
  rw [if_neg Bool.false_ne_true]
  refine wpAny_bind (raised_inst hC2 e2 cl2 ?_)
  unfold setFlight
  refine wpAny_bind (wpAny_bind (wpAny_field e2 d2 (x := .none) (by simp) ?_))
  rw [if_neg (by decide)]
  refine wpAny_pure (raise_new hh ne ((other2 a ne).trans ha) hd h2 e2 d2 (by simp) (hE _ (fun b hb => (Heap.get?_update_other _ _ (Ne.symm hb)).trans (other2 b hb)) ?_))
  exact Heap.get?_update_self (Obj.mapFields (·.setIfInBounds 2 (Value.ref a))) e2 (Obj.isFreed_of_fields (Obj.data_mapFields d2 _))
end
end Mi
namespace Mi
open PySem L2
open PySem.Spec
variable {K : PySem.W.Frag} {H H' : Hp} {O O' : Addr → Prop} {fp fp' : Nat → List Addr} {B : Hp} {ρ ρ' : En} {σ : L2.St}
theorem Fly.keeps {G : Heap} {l : List PySem.Env} {e : Addr} {C a0 : Value} {x2 : Option Value} {fl : Value} {h h' : Heap} (x : Fly G l e C a0 x2 fl h) (k : ∀ b o, h.get? b = some o → h'.get? b = some o) : Fly G l e C a0 x2 fl h' := by
  refine ⟨fun b o q => k b o (x.stays b o q), x.new, x.frames.of_keeps fun b o q _ => ⟨o, k b o q, rfl⟩, ?_⟩
  obtain ⟨oe, vs, T, oT, ts, h1, h2, h3, h4, h5, h6, h7, h8, h9, h10⟩ := x.tr
  exact ⟨oe, vs, T, oT, ts, k _ _ h1, h2, h3, h4, h5, h6, k _ _ h7, h8, h9, h10⟩
theorem funs_any {h h' G : Heap} : ∀ {l : List PySem.Env}, h.FunFrames G l → (∀ b ∈ l.filterMap (·.frame), ∃ o, h'.get? b = some o ∧ ∀ vs, o.data ≠ .fields vs) → h'.FunFrames G l
  | [], _, _ => trivial
  | env :: r, ⟨hk, ⟨L, o, hf, hn, ho, hd⟩, hr⟩, k => by
    have m : (env :: r).filterMap (·.frame) = L :: r.filterMap (·.frame) := List.filterMap_cons_some hf
    obtain ⟨o', ho', hd'⟩ := k L (by rw [m]; simp)
    exact ⟨hk, ⟨L, o', hf, hn, ho', hd'⟩, funs_any hr fun b hb => k b (by rw [m]; exact List.mem_cons_of_mem _ hb)⟩
section
variable {X : Cx} {pins : List (Addr × Obj)} {s : Shared} {h' : Heap}
theorem inv_more (I : Inv X pins σ H s) (k : ∀ b o, s.heap.get? b = some o → h'.get? b = some o) (tk : Nat) : Inv X pins σ H { s with heap := h', toks := tk } :=
  I.call' (s' := { s with heap := h', toks := tk }) (ch := []) rfl ⟨fun b o q _ _ _ => k b o q, fun b o q _ _ _ => ⟨o.slots, k b o q⟩, fun b o q n _ => n, fun b o q _ => ⟨o, k b o q⟩, fun _ _ z => z, fun _ _ _ z => z, fun _ ps z => ⟨#[], by simpa using z⟩⟩
    (fun b u q => (I.hok b u q).stay (fun c uc _ qc => k c uc qc) (fun _ z => z) fun _ _ z => z) I.bare fun b z => absurd z (by simp)
theorem make_exc {E : Value → Shared → Prop} {c txt : Str} {C : Addr} {np cpos p2 : Pos} {j : Nat} {Q : Value → Shared → Prop} (I : Inv X pins σ H s) (O : OwnX X.K X.mg c C) (hg : Gl X c)
    (h : ∀ h' e tk args, Heap.MadeExcOf s.heap h' e (.ref C) args → Q (.ref e) { s with heap := h', toks := tk }) (hd : (c == ("__debug__" : Str)) = false := by decide)
    (he : starEach [Expr.Constant (.str txt) j p2] X.env = [(false, eval (Expr.Constant (.str txt) j p2) X.env)] := by rfl) :
    wpAny (model X.prog X.w) X.A (eval (.Call (.Name c np) [.Constant (.str txt) j p2] [] cpos) X.env) Q E s := by
  obtain ⟨bm, N, nm, q, bs, hdct, sn, sub, ab, col, dd, k0, k1, k2, k3, k5, mN, hC, hN, hni, T⟩ := own_obj I.ok.mod.kin O.exc
  refine wpAny_Call_ofName (ld_glob I hg O.bound ?_ hd)
  unfold callWith
  refine wpAny_bind (wpAny_holding ?_)
  rw [he]
  refine Calls.evalArgs_plain ?_
  refine Calls.spliced_cons ?_
  refine Calls.Constant_str (k := j) (pos := p2) ?_
  refine Calls.spliced_nil ?_
  refine wpAny_bind (wpAny_standAt ?_)
  have hC2 := I.bk _ _ hC
  obtain ⟨hp, g, d, tk, os⟩ := s
  refine wpAny_bind (wpAny_keeperOf_exc hC2 ?_)
  refine wpAny_bind (wpAny_call_exc_subT (hrest := by show 1 ≤ sizeLine; decide) PySem.F.excBase_ValueError (T.keeps I.bk) hC2 (hN.keeps I.bk) hni fun h' e hm => wpAny_bind (wpAny_holding (wpAny_point (wpAny_pure ?_))))
  exact h h' e _ _ hm
end
noncomputable def CX2 (P : Program) (w : World) : CXT := fun outer H s E e s' => ∃ (a : Addr) (C a0 : Value) (H' : Hp) (G : Heap), e = .ref a ∧ s'.os = s.os ∧ PyProof.Rows.AllBare s'.gens ∧ Un (frs outer) [] H H' s.heap s'.heap ∧ HOk P w H' s'.heap ∧
  Fly G outer a C a0 (some .none) .none s'.heap ∧ (∀ b o, s.heap.get? b = some o → b ∉ frs outer → H b = none → G.get? b = some o) ∧ (∀ b o, s.heap.get? b = some o → b ∉ frs outer → ∃ o', G.get? b = some o') ∧
  (∀ b u, H' b = some u → ∃ o, G.get? b = some o) ∧ H' a = none ∧ E C none H'
theorem hid {X : Cx} {pins : List (Addr × Obj)} {s : Shared} (I : Inv X pins σ H s) :
    (∀ b o, s.heap.get? b = some o → b ∉ frs X.stack → (PySem.W.hideAll s.heap (frs X.stack)).get? b = some o) ∧ (∀ b u, H b = some u → ∃ o, (PySem.W.hideAll s.heap (frs X.stack)).get? b = some o) ∧
    (∀ b o, (PySem.W.hideAll s.heap (frs X.stack)).get? b = some o → s.heap.get? b = some o) ∧ s.heap.FunFrames (PySem.W.hideAll s.heap (frs X.stack)) X.stack ∧
    (∀ b o, X.s₀.heap.get? b = some o → b ∉ X.fs → X.H₀ b = none → b ∉ X.ex → (PySem.W.hideAll s.heap (frs X.stack)).get? b = some o) ∧ (∀ b o, X.s₀.heap.get? b = some o → b ∉ X.fs → b ∉ X.ex → ∃ o', (PySem.W.hideAll s.heap (frs X.stack)).get? b = some o') := by
  have toG : ∀ b o, s.heap.get? b = some o → b ∉ frs X.stack → (PySem.W.hideAll s.heap (frs X.stack)).get? b = some o := fun b o q n => PySem.W.hideAll_get _ q n
  refine ⟨toG, fun b u q => ?_, fun b o q => PySem.W.of_hideAll _ q, PySem.W.funFrames_hide I.stack (fun env he b hb => List.mem_filterMap.mpr ⟨env, he, hb⟩), fun b o q hb n hx => toG b o (I.base.keep b o q n hb hx) (old_ne I.ok q hb), fun b o q hb hx => ?_⟩
  · obtain ⟨o, q1⟩ := obj_at (I.hok b u q)
    refine ⟨o, toG b o q1 fun z => ?_⟩
    have := I.stkFree b z
    rw [q] at this; cases this
  · obtain ⟨o', q1⟩ := I.base.there b o q hx
    exact ⟨o', toG b o' q1 (old_ne I.ok q hb)⟩
theorem not_there {X : Cx} {pins : List (Addr × Obj)} {s : Shared} (I : Inv X pins σ H s) {e : Addr} (h : s.heap.get? e = none) : H e = none := by
  cases q : H e with
  | none => rfl
  | some u =>
    obtain ⟨o', q3⟩ := obj_at (I.hok e u q)
    rw [h] at q3; cases q3
section
variable {P : Program} {w : World} {K : PySem.W.Frag} {mg : Str → Option Value} {base : Heap} {N : List Str} {qual : Str} {scope : Scope} {f : Addr} {cd : Value} {A : Around} {outer : List PySem.Env} {s₀ : Shared} {H₀ : Hp} {E : XK}
theorem raise_out2 {pins : List (Addr × Obj)} {σ : L2.St} {H : Hp} {s : Shared} {h' : Heap} {e : Addr} {C : Value} {args : List Value} (I : Inv (cxOf (CX2 P w) P w K mg base N qual scope f cd A outer s₀ H₀ E) pins σ H s)
    (hx : Heap.MadeExcOf s.heap h' e C args) (hE : E C none H) : (cxOf (CX2 P w) P w K mg base N qual scope f cd A outer s₀ H₀ E).xe (.ref e) { s with heap := h' } := by
  have hfr : (A.deeper (PyProof.Rows.envOfC qual scope s₀.heap.objs.size f cd)).frames = some (PyProof.Rows.envOfC qual scope s₀.heap.objs.size f cd :: outer) := I.ok.frames
  have b0 : Un (frs outer) [] H₀ H s₀.heap s.heap := I.base
  obtain ⟨toG, c3, ofG, fr, c1, c2⟩ := hid I
  obtain ⟨t, he, htn, ht⟩ := hx.there
  have hen := not_there I hx.new
  have nG : ∀ b, s.heap.get? b = none → (PySem.W.hideAll s.heap (frs (cxOf (CX2 P w) P w K mg base N qual scope f cd A outer s₀ H₀ E).stack)).get? b = none := fun b q => by
    cases z : (PySem.W.hideAll s.heap (frs (cxOf (CX2 P w) P w K mg base N qual scope f cd A outer s₀ H₀ E).stack)).get? b with
    | none => rfl
    | some o => have := ofG b o z; rw [q] at this; cases this
  show wpAny _ _ (leaving _ _) _ _ _
  unfold leaving
  refine wpAny_bind (note_first (s := { s with heap := h' }) (x2 := some .none) hfr (fr.of_keeps fun b o q _ => ⟨o, hx.keeps b o q, rfl⟩) rfl he (fun b o q => hx.keeps b o (ofG b o q)) (nG e hx.new) rfl rfl rfl rfl rfl fun h1 y1 u1 => ?_)
  refine flight (s := { s with heap := h1 }) (f := none) y1 fun h2 y2 u2 => ?_
  have up : s.heap.UpToSlots h2 := ((Heap.UpToSlots.of_keeps hx.keeps).trans u1).trans u2
  have slots : ∀ b ∈ frs outer, ∀ o, s.heap.get? b = some o → ∃ sl, h2.get? b = some { o with slots := sl } := fun b hb o q => by
    obtain ⟨_, o', ho', hd⟩ := fr.mem (b := b) (List.mem_cons_of_mem _ hb)
    rw [q] at ho'; cases ho'
    exact up b o q hd
  refine ⟨e, C, _, H, _, rfl, I.os, I.bare, ⟨fun b o q n hb hx => y2.stays b o (c1 b o q hb n (by simp [cxOf])), fun b o q n hb hx => ?_, fun b o q n hx => b0.free b o q n hx, fun b o q hx => ?_, b0.tups, b0.frzs, b0.tbls⟩, hok_land I.hok ofG y2.stays c3, y2.drop, fun b o q n1 n2 => c1 b o q n1 n2 (by simp [cxOf]), fun b o q n1 => c2 b o q n1 (by simp [cxOf]), c3, hen, hE⟩
  · obtain ⟨sl, q1⟩ := b0.slot b o q n hb hx
    obtain ⟨sl2, q2⟩ := slots b hb _ q1
    exact ⟨sl2, q2⟩
  · by_cases hb : b ∈ frs outer
    · obtain ⟨o', q1⟩ := b0.there b o q hx
      obtain ⟨sl, q2⟩ := slots b hb o' q1
      exact ⟨_, q2⟩
    · obtain ⟨o', q1⟩ := c2 b o q hb (by simp [cxOf])
      exact ⟨o', y2.stays b o' q1⟩
end
structure CalZ (P : Program) (w : World) (K : PySem.W.Frag) (mg : Str → Option Value) (base : Heap) (k : Nat) (x : Str) (n : Nat) (F : List Slot → Option ResX) : Prop where
  ex : ∃ f fd ps, FnOk P w K mg base (CX2 P w) k f fd ps (spX K mg n F) ∧ Binds K fd ps [] ∧ PySem.W.keepIn K (.ref f) = true ∧ mg x = some (.ref f)
theorem fn_okZ {P : Program} {w : World} {K : PySem.W.Frag} {mg : Str → Option Value} {base : Heap} {x qual : Str} {st : Stmt} {f : Addr} {fd : FuncData} {N ps : List Str} {k : Nat} {g : MX} (F : Fun K x qual st f fd) (S : FnScope N ps (defScope st))
    (hbody : ∀ (cdv : Value) (A : Around) (outer : List PySem.Env) (s : Shared) (H : Hp) (E : XK) (W : Str → Hp → Prop), Room k (A.deeper (PyProof.Rows.envOfC qual (defScope st) s.heap.objs.size f cdv)) →
      Raiser (cxOf (CX2 P w) P w K mg base N qual (defScope st) f cdv A outer s H E) W →
      PassesOwn (model P w) (cxOf (CX2 P w) P w K mg base N qual (defScope st) f cdv A outer s H E).A (cxOf (CX2 P w) P w K mg base N qual (defScope st) f cdv A outer s H E).env (cxOf (CX2 P w) P w K mg base N qual (defScope st) f cdv A outer s H E).xe →
      QXs (cxOf (CX2 P w) P w K mg base N qual (defScope st) f cdv A outer s H E) W (defBody st) g) : FnOk P w K mg base (CX2 P w) (k + 1) f fd ps (spX K mg ps.length (runX ps.length N.length g)) := by
  obtain ⟨oc, od, kV, doc, pm, an, cdv, ct, osl, rfl, lk, hcd⟩ := F.ex
  refine fn_of lk hcd S (fun vs H Q E h => ?_) fun A outer s H vs Q E hr h => ?_
  · obtain ⟨ss, t, e, r, _⟩ := h
    rw [r.length, e]
  · obtain ⟨ss, t, e, r, hF, G⟩ := h
    refine ⟨_, hbody cdv A outer s H E (fun c H' => ∀ C, mg c = some C → E C none H') hr (fun pins σ H s h' e c C args I hm hx hw => raise_out2 I hx (hw C hm)) PassesOwn.leaving, ?_⟩
    unfold runX at hF
    rw [if_pos e] at hF
    obtain ⟨o, h1, hF⟩ := bind_some hF
    have R0 := start_rel (N := N) r
    rw [e] at R0
    refine ⟨H, _, O0, fun _ => [], o, R0, h1, ?_⟩
    cases o with
    | ex c =>
      cases hF
      exact fun ρ' σ' H' O' fp' R' C hm => G C H' hm R'.keep
    | o x =>
      cases x with
      | nx ρ' =>
        cases hF
        exact fun σ' H' O' fp' R' F' => G .non H' R'.keep rfl
      | bk ρ' => cases hF
      | ct ρ' => cases hF
      | rt s' =>
        obtain ⟨t', hF', hF⟩ := bind_some hF
        cases hF
        obtain ⟨rfl, hn⟩ := fresh_of hF'
        intro ρ' σ' v H' O' fp' R' k'
        obtain ⟨f, hs, nd, hf⟩ := k'
        cases t' with
        | val d => exact G v H' R'.keep hs.1
        | fz d => exact hn.elim
        | fz2 d => exact hn.elim
        | own ds =>
          obtain ⟨p, vs', rfl, h2, h3, rfl⟩ := hs
          exact G p vs' H' R'.keep (R'.new p (hf p (by simp)).1.1) h2 h3
        | own2 dss =>
          obtain ⟨p, qs, rfl, h2, h3, rfl⟩ := hs
          exact G p qs H' R'.keep (fun a ha => R'.new a (hf a ha).1.1) nd h2 h3
noncomputable def TestX (X : Cx) (t : Expr) (C : Value) : Prop := ∀ (a : Addr) (pins : List (Addr × Obj)) (σ : L2.St) (H : Hp) (s : Shared) (E : Value → Shared → Prop) (Q : Bool → Shared → Prop), Inv (marked X a) pins σ H s → PySem.W.Looks (model X.prog X.w) s.heap (typeOf (.ref a)) C →
  (∀ h', (∀ q o, s.heap.get? q = some o → h'.get? q = some o) → Q true { s with heap := h' }) → wpAny (model X.prog X.w) (marked X a).A (eval t X.env) (fun c s₁ => wpAny (model X.prog X.w) (marked X a).A (excMatches (.ref a) c) Q E s₁) E s
section
variable {X : Cx} {x x1 x2 : Str} {C c c1 c2 : Value} {np p1 p2 tpos : Pos} {kk : Nat}
theorem testx_one (hg : Gl X x) (hm : X.mg x = some c) (h : PySem.W.exmOne X.K C c = some true) (hd : (x == ("__debug__" : Str)) = false := by decide) : TestX X (.Name x np) C := fun a pins σ H s E Q I LT q =>
  ld_glob I hg hm ((PySem.W.exm_one I.kIn LT h).here (q s.heap fun _ _ z => z)) hd
theorem testx_two (hg1 : Gl X x1) (hm1 : X.mg x1 = some c1) (hg2 : Gl X x2) (hm2 : X.mg x2 = some c2) (h : PySem.W.exmAny X.K C [c1, c2] = some true) (hd1 : (x1 == ("__debug__" : Str)) = false := by decide) (hd2 : (x2 == ("__debug__" : Str)) = false := by decide) :
    TestX X (.Tuple [.Name x1 p1, .Name x2 p2] kk tpos) C := fun a pins σ H s E Q I LT q => by
  refine wpAny_Tuple ?_
  refine wpAny_items_cons (ld_glob I hg1 hm1 ?_ hd1)
  refine wpAny_items_cons (ld_glob I hg2 hm2 ?_ hd2)
  refine wpAny_items_nil ⟨by size_fits, ?_⟩
  have kp : ∀ q o, s.heap.get? q = some o → (s.heap.push { cls := .type "tuple", data := .seq [c1, c2].toArray }).get? q = some o := fun _ _ z => Heap.get?_push_of_some _ z
  exact (PySem.W.exm_tup2 (PySem.W.Frag.In.keeps I.kIn kp) (LT.keeps kp) (Heap.get?_push_size s.heap rfl) h).here (q _ kp)
end
section
variable {X : Cx} {pins : List (Addr × Obj)} {σ : L2.St} {H H1 H2 : Hp} {s s1 s' : Shared} {D : Ends} {E : XK} {W : Str → Hp → Prop}
theorem hand_from {e : Value} {n c txt : Str} {ie : Nat} {C2 : Addr} {tE : Expr} {np cpos p2 p3 rpos hpos : Pos} {j : Nat} (L : LandsW X (xkOf X.mg W)) (I1 : Inv X pins σ H1 s1) (cx : CX2 X.prog X.w X.stack H1 s1 E e s') (hst : X.stack = X.env :: X.outer) (hfr : X.env.frame = some X.env.locals)
    (hN : X.N.Nodup) (hi : X.N[ie]? = some n) (hk : X.env.scope.names.lookup n = some .local) (O : OwnX X.K X.mg c C2) (hg : Gl X c)
    (hE : ∀ C H2, E C none H2 → TestX X tE C ∧ (∃ Ca, C = .ref Ca ∧ PySem.W.excIn X.K Ca vBases "ValueError.__new__" = true) ∧ W c H2)
    (hd : (c == ("__debug__" : Str)) = false := by decide) (hdn : (n == ("__debug__" : Str)) = false := by decide) (hcn : (n == ("__classdict__" : Str)) = false := by decide)
    (he : starEach [Expr.Constant (.str txt) j p2] X.env = [(false, eval (Expr.Constant (.str txt) j p2) X.env)] := by rfl) :
    wpAny (model X.prog X.w) X.A (noteFrame e X.env) (fun _ s₂ => wpAny (model X.prog X.w) X.A (setFlight e none) (fun _ s₃ => wpAny (model X.prog X.w) X.A (handleBy e X.env [.ExceptHandler (some tE) (some n) [.Raise (some (.Call (.Name c np) [.Constant (.str txt) j p2] [] cpos)) (some (.Name n p3)) rpos] hpos]) (SP X pins D) X.xe s₃) X.xe s₂) X.xe s' := by
  obtain ⟨a, C, a0, H2, G, rfl, hos, hb, un, hok, fl, c1, c2, c3, hn, hE0⟩ := cx
  obtain ⟨hT, ⟨Ca, rfl, hCa⟩, hw⟩ := hE C H2 hE0
  have hA : X.A.frames = some (X.env :: X.outer) := by rw [← hst]; exact I1.ok.frames
  have fl : Fly G (X.env :: X.outer) a (.ref Ca) a0 (some .none) .none s'.heap := by rw [← hst]; exact fl
  refine note hA hfr fl fun h4 y4 u4 => flight (s := { s' with heap := h4 }) (f := none) y4 fun h5 y5 u5 => ?_
  have I5 : Inv X pins σ H2 { s' with heap := h5, toks := s'.toks } := inv_land I1 hos hb un hok c1 c2 c3 fl.stays y5.stays (u4.trans u5) s'.toks
  refine wpAny_handleBy_cons (codeAny_handlers_test (hT a pins σ H2 _ _ _ (inv_mark I5 a) (looks_exc (by
    obtain ⟨oe, vs, T, oT, ts, q1, q2, _⟩ := y5.tr
    exact ⟨oe, q1, q2.1⟩)) fun h6 k6 => ?_)) (by intro q; cases q)
  have y6 := y5.keeps k6
  refine codeAny_handlers_suite_as (flight (s := { s' with heap := h6 }) (f := none) y6 fun h7 y7 u7 => ?_)
  have I7 : Inv X pins σ H2 { s' with heap := h7, toks := s'.toks } := inv_land I1 hos hb un hok c1 c2 c3 fl.stays y7.stays (((u4.trans u5).trans (Heap.UpToSlots.of_keeps k6)).trans u7) s'.toks
  obtain ⟨oe, vs, T, oT, ts, q1, q2, q3, q4, q5, q6, q7, q8, q9, q10⟩ := y7.tr
  have ne : a ≠ X.env.locals := fun z => by
    obtain ⟨m, ⟨o', es, ep, ho', hd', _⟩, _⟩ := I7.loc
    have ho2 : h7.get? X.env.locals = some o' := ho'
    rw [← z, q1] at ho2; cases ho2; rw [q3] at hd'; cases hd'
  have nf : a ∉ X.fs := fun z => by
    obtain ⟨_, o', ho', hd'⟩ := I7.funs.mem z
    have ho2 : h7.get? a = some o' := ho'
    rw [q1] at ho2; cases ho2; exact hd' _ q3
  have I7p := inv_pin (oe := oe) I7 q1 hn ne nf fun v z => by rw [q3] at z; cases z
  refine store_ok (X := pinned X a oe) (v := .ref a) I7p hN hi (.inl hk) rfl (fun s8 I8 => ?_) (.inr hk)
  -- the raise
  have ha8 : s8.heap.get? a = some oe := (I8.pin (a, oe) (by simp)).1
  have I8x : Inv X pins (σ.set ie (some (.ref a))) H2 s8 := inv_unpin I7.ok I8
  obtain ⟨bmA, NA, nmA, qA, bsA, hdA, snA, subA, abA, colA, ddA, a0', a1', a2', a3', a5', mA, hCA, _, _, TA⟩ := own_obj I8.ok.mod.kin hCa
  obtain ⟨bm, N, nm, q, bs, hdct, sn, sub, ab, col, dd, k0, k1, k2, k3, k5, mN, hC, _, _, T2⟩ := own_obj I8.ok.mod.kin O.exc
  refine wpAny_execs_cons ?_
  rw [arm_exec_Raise]
  simp only [evalOpt, Option.map]
  refine wpAny_bind (wpAny_standAt (raiseStmt_from (oa := oe) (vs := vs) (newId := "ValueError.__new__") (newId' := "ValueError.__new__") (C := C2) (C' := Ca) (nm := nm) (q := q) (N := N) (bs := bs) (bm := bm) (hdct := hdct) (sn := sn) (sub := sub) (ab := ab) (col := col) (dd := dd) (k0 := k0) (k1 := k1) (k2 := k2) (k3 := k3) (k5 := k5)
    (nm' := nmA) (q' := qA) (N' := NA) (bs' := bsA) (bm' := bmA) (hdct' := hdA) (sn' := snA) (sub' := subA) (ab' := abA) (col' := colA) (dd' := ddA) (l0 := a0') (l1 := a1') (l2 := a2') (l3 := a3') (l5 := a5')
    (T2.hasType PySem.F.excBase_ValueError.hasBase) (TA.hasType PySem.F.excBase_ValueError.hasBase) rfl ?_))
  refine wpAny_bind (wpAny_mono (make_exc (X := pinned X a oe) I8 O hg (fun h9 e2 tk args hx => ?_) hd he) (fun v s₃ h₃ => wpAny_bind (wpAny_standAt (wpAny_pure h₃))) fun _ _ x => x)
  obtain ⟨t, he2, htn, ht⟩ := hx.there
  refine ⟨e2, t, rfl, ?_⟩
  have I9 := inv_more I8 hx.keeps tk
  have nea : a ≠ e2 := fun z => by rw [z, hx.new] at ha8; cases ha8
  have neC : C2 ≠ e2 := fun z => by
    have := I8.bk _ _ hC
    rw [z, hx.new] at this; cases this
  obtain ⟨m, hns, hlk⟩ := id I9.loc
  obtain ⟨u, ru, lu⟩ := hlk ie n (.ref a) hi (List.getElem?_set_self (by rw [I1.len]; exact (List.getElem?_eq_some_iff.mp hi).1)) (.inl hk)
  have ru : u = Value.ref a := ru
  subst ru
  have hm9 : m n = some (.ref a) := by
    rcases lu with ⟨_, z⟩ | ⟨z, _⟩
    · exact z
    · rcases z with z | z
      · have hk' : (pinned X a oe).env.kindOf n = some .local := hk
        rw [hk'] at z; cases z
      · have hk' : (pinned X a oe).env.kindOf n = some .local := hk
        rw [hk'] at z; cases z
  refine wpAny_bind (wpAny_Name (wpAny_loadName_local I9.ok.kind hk hns hm9 ?_) hdn)
  refine wpAny_bind (wpAny_standAt (wpAny_pure ⟨rfl, nea, neC, hx.keeps _ _ (I8.bk _ _ hC), hx.keeps _ _ (I8.bk _ _ hCA), he2, hx.keeps _ _ ha8, q2.1, q3, q10, fun hA' oth ho => ?_⟩))
  -- it leaves the suite
  obtain ⟨toG, g3, ofG, frG, g1, g2⟩ := hid I8x
  have ofL : X.env.locals ∈ frs X.stack := by rw [hst]; exact List.mem_filterMap.mpr ⟨X.env, by simp, hfr⟩
  have nG : ∀ b, s8.heap.get? b = none → (PySem.W.hideAll s8.heap (frs X.stack)).get? b = none := fun b q => by
    cases z : (PySem.W.hideAll s8.heap (frs X.stack)).get? b with
    | none => rfl
    | some o => have := ofG b o z; rw [q] at this; cases this
  have k9 : ∀ b o, s8.heap.get? b = some o → hA'.get? b = some o := fun b o q => (oth b fun z => by rw [z, hx.new] at q; cases q).trans (hx.keeps b o q)
  have frG' : hA'.FunFrames (PySem.W.hideAll s8.heap (frs X.stack)) (X.env :: X.outer) := by rw [← hst]; exact frG.of_keeps fun b o q _ => ⟨o, k9 b o q, rfl⟩
  refine note_first (s := { s8 with heap := hA', toks := tk }) (x2 := some (.ref a)) hA frG' hfr ho (fun b o q => k9 b o (ofG b o q)) (nG e2 hx.new) rfl rfl rfl rfl rfl fun h10 y10 u10 => ?_
  have up10 : s8.heap.UpToSlots h10 := (Heap.UpToSlots.of_keeps k9).trans u10
  obtain ⟨m8, hns8, _⟩ := id I8x.loc
  have hns10 := up10.ns hns8
  have hcls : (X.env.scope.kind == .class || (X.env.scope.kind == .module && X.env.locals != X.env.globals)) = false := by rw [I7.ok.kind]; rfl
  refine wpAny_nameGoes_keeps (s := { s8 with heap := h10, toks := tk }) hk hns10 hcls fun h11 v hns11 sb => ?_
  have fNe : ∀ b o ws, h10.get? b = some o → o.data = .fields ws → b ≠ X.env.locals := fun b o ws q hd z => by
    obtain ⟨o', es, ep, ho', hd', _⟩ := hns10
    rw [z, ho'] at q; cases q
    rw [hd] at hd'; cases hd'
  have same11 : ∀ b o, b ≠ X.env.locals → h10.get? b = some o → h11.get? b = some o := fun b o hb q => (sb.2 b hb).trans q
  have y11 : Fly (PySem.W.hideAll s8.heap (frs X.stack)) (X.env :: X.outer) e2 (.ref C2) (.ref t) (some (.ref a)) (rawInt X.env.locals) h11 := by
    refine ⟨fun b o q => same11 b o (fun z => ?_) (y10.stays b o q), y10.new, funs_any y10.frames fun b hb => ?_, ?_⟩
    · have := (y10.frames.mem (b := b) (by rw [z]; rw [hst] at ofL; exact ofL)).1
      rw [q] at this; cases this
    · by_cases z : b = X.env.locals
      · obtain ⟨o', es, ep, ho', hd', _⟩ := hns11
        exact ⟨o', by rw [z]; exact ho', fun vs w => by rw [hd'] at w; cases w⟩
      · obtain ⟨_, o, ho', hd'⟩ := y10.frames.mem hb
        exact ⟨o, same11 b o z ho', hd'⟩
    · obtain ⟨oe2, vs2, T2', oT2, ts2, w1, w2, w3, w4, w5, w6, w7, w8, w9, w10⟩ := y10.tr
      exact ⟨oe2, vs2, T2', oT2, ts2, same11 _ _ (fNe _ _ _ w1 w3) w1, w2, w3, w4, w5, w6, same11 _ _ (fNe _ _ _ w7 w8) w7, w8, w9, w10⟩
  refine goes_on (s := { s8 with heap := h11, toks := tk + 1 }) y11 fun h12 y12 u12 => ?_
  refine note (s := { s8 with heap := h12, toks := tk + 1 }) hA hfr y12 fun h13 y13 u13 => ?_
  refine came_back (s := { s8 with heap := h13, toks := tk + 1 }) y13 fun h14 y14 u14 => ?_
  have slots : ∀ b ∈ X.fs, ∀ o, X.s₀.heap.get? b = some o → ∀ sl, s8.heap.get? b = some { o with slots := sl } → ∃ sl, h14.get? b = some { o with slots := sl } := fun b hb o q sl q1 => by
    have nL : b ≠ X.env.locals := fun z => absurd (Heap.lt_size q) (Nat.not_lt.mpr (z ▸ I7.ok.above))
    obtain ⟨_, o', ho', hd'⟩ := I8x.funs.mem (b := b) hb
    rw [q1] at ho'; cases ho'
    obtain ⟨sl2, z2⟩ := up10 b _ q1 hd'
    obtain ⟨sl3, z3⟩ := u12 b _ (same11 b _ nL z2) hd'
    obtain ⟨sl4, z4⟩ := u13 b _ z3 hd'
    obtain ⟨sl5, z5⟩ := u14 b _ z4 hd'
    exact ⟨sl5, z5⟩
  have fS : ∀ G', h14.FunFrames G' (X.env :: X.outer) → h14.FunFrames G' X.stack := fun G' z => by rw [hst]; exact z
  refine L H2 _ e2 (.ref C2) (.ref t) (some (.ref a)) _ _ I7.ok I8x.os I8x.bare ⟨fun b o q n hb hx => y14.stays b o (g1 b o q hb n hx), fun b o q n hb hx => ?_, I8x.base.free, fun b o q hx => ?_, I8x.base.tups, I8x.base.frzs, I8x.base.tbls⟩ (hok_land I8x.hok ofG y14.stays g3) ⟨y14.stays, y14.new, fS _ y14.frames, y14.tr⟩ g1 g2 g3 (not_there I8x hx.new) ⟨c, O.bound, hw⟩
  · obtain ⟨sl, q1⟩ := I8x.base.slot b o q n hb hx
    exact slots b hb o q sl q1
  · by_cases hb : b ∈ X.fs
    · obtain ⟨sl, q1⟩ := I8x.base.slot b o q (I7.ok.frf b hb) hb hx
      obtain ⟨sl2, q2⟩ := slots b hb o q sl q1
      exact ⟨_, q2⟩
    · obtain ⟨o', q1⟩ := g2 b o q hb hx
      exact ⟨o', y14.stays b o' q1⟩
end
end Mi
namespace Mi
open PySem L2
open PySem.Spec
variable {K : PySem.W.Frag} {H H' : Hp} {O O' : Addr → Prop} {fp fp' : Nat → List Addr} {B : Hp} {ρ ρ' : En} {σ : L2.St}
theorem inv_nox {X : Cx} {pins : List (Addr × Obj)} {s : Shared} (I : Inv X pins σ H s) : Inv X.nox pins σ H s :=
  ⟨⟨I.ok.mod, I.ok.kind, I.ok.glob, I.ok.blt, I.ok.above, I.ok.inj, I.ok.has, I.ok.cab, I.ok.hd, I.ok.frames, I.ok.stk, I.ok.exf, I.ok.bs, I.ok.bsz, I.ok.noex, I.ok.exfs, I.ok.funs, I.ok.frf⟩, I.os, I.bare, I.base, I.loc, I.cell, I.free, I.freeC, I.pin, I.hok, I.len⟩
theorem inv_box {X : Cx} {pins : List (Addr × Obj)} {s : Shared} (I : Inv X.nox pins σ H s) : Inv X pins σ H s :=
  ⟨⟨I.ok.mod, I.ok.kind, I.ok.glob, I.ok.blt, I.ok.above, I.ok.inj, I.ok.has, I.ok.cab, I.ok.hd, I.ok.frames, I.ok.stk, I.ok.exf, I.ok.bs, I.ok.bsz, I.ok.noex, I.ok.exfs, I.ok.funs, I.ok.frf⟩, I.os, I.bare, I.base, I.loc, I.cell, I.free, I.freeC, I.pin, I.hok, I.len⟩
section
variable {X : Cx} {pins : List (Addr × Obj)} {s : Shared} {E : XK} {CX : CXT}
theorem eval_callG {Ex : Value → Shared → Prop} {Q : VK} {x : Str} {p pos : Pos} {ea : Expr} {es : List Expr} {t : TA} {k : Nat} {f : Addr} {fd : FuncData} {ps : List Str} {sp : Sp} (G : FnOk X.prog X.w X.K X.mg X.base CX k f fd ps sp)
    (hr : Room k X.A) (hg : Gl X x) (hm : X.mg x = some (.ref f)) (hk : PySem.W.keepIn X.K (.ref f) = true) (hb : Binds X.K fd ps []) (ha : PA X.nox (ea :: es) t) (I : Inv X pins σ H s)
    (h : t σ H fun vs H1 => sp vs H1 Q E) (hp : ∀ H1 s1 e s', Inv X pins σ H1 s1 → CX X.stack H1 s1 E e s' → Ex e s')
    (hdb : (x == ("__debug__" : Str)) = false) (he : starEach (ea :: es) X.env = (false, eval ea X.env) :: starEach es X.env) (hpl : (backTo pos (starEach es X.env)).any (·.1) = false) :
    wpAny (model X.prog X.w) X.A (eval (.Call (.Name x p) (ea :: es) [] pos) X.env) (EP X pins σ Q) Ex s := by
  refine wpAny_Call_Name_kw (ld_glob I hg hm ?_ hdb)
  refine PySem.W.callWith_K (h₀ := X.base) I.ok.mod.kin hk (wpAny_mono (ha pos pins s σ H _ (inv_nox I) h) (fun us s1 ⟨vs, H1, I1', r, q⟩ => ?_) fun e s z => z.elim) he hpl
  have I1 : Inv X pins σ H1 s1 := inv_box I1'
  refine ⟨I1.kIn, ?_⟩
  have r2 : Vals (vs ++ []) (us ++ []) := r.append .nil
  rw [List.append_nil, List.append_nil] at r2
  have hl : (us ++ []).length = ps.length := by rw [List.append_nil, ← r2.length]; exact G.len _ _ _ _ q
  have hbb := hb s1 us I1.kIn hl
  rw [List.append_nil] at hbb
  refine wpAny_call (codeAny_mono (G.run X.A X.stack s1 H1 ⟨us, []⟩ us vs Q E hr I1.env0 hbb r2 q) fun rr s' hq => ?_)
  cases rr with
  | error e => exact hp H1 s1 e s' I1 hq
  | ok fl =>
    cases fl with
    | ret u => exact I1.after hq
    | next => exact False.elim hq
    | brk => exact False.elim hq
    | cont => exact False.elim hq
end
noncomputable def xTryR (n : Nat) (F : List Slot → Option ResX) (m : M (List R)) (tk : List Str) (c : Str) : MX := fun ρ => (m ρ).bind fun x => (drs x.2 x.1).bind fun ss => if ss.length = n then (F ss).bind fun r => match r with
    | .v s => (fresh s).bind fun _ => some (.o (.nx x.2))
    | .x c' => if c' ∈ tk then some (.ex c) else none
  else none
section
variable {X : Cx} {W : Str → Hp → Prop} {k n ie : Nat} {x c ne txt : Str} {p pos pa np cpos p2 p3 rpos hpos tpos : Pos} {j : Nat} {ea tE : Expr} {es : List Expr} {m : M (List R)} {F : List Slot → Option ResX} {C2 : Addr} {tk : List Str}
theorem qx_tryR (L : LandsW X (xkOf X.mg W)) (C : CalZ X.prog X.w X.K X.mg X.base k x n F) (hr : Room k X.A) (hg : Gl X x) (ha : QA X.nox (ea :: es) m) (hN : X.N.Nodup) (hst : X.stack = X.env :: X.outer) (hfr : X.env.frame = some X.env.locals)
    (hi : X.N[ie]? = some ne) (hk : X.env.scope.names.lookup ne = some .local) (O : OwnX X.K X.mg c C2) (hgc : Gl X c) (ht : ∀ c' ∈ tk, ∃ Ca, X.mg c' = some (.ref Ca) ∧ TestX X tE (.ref Ca) ∧ PySem.W.excIn X.K Ca vBases "ValueError.__new__" = true)
    (hdb : (x == ("__debug__" : Str)) = false := by decide) (hd : (c == ("__debug__" : Str)) = false := by decide) (hdn : (ne == ("__debug__" : Str)) = false := by decide) (hcn : (ne == ("__classdict__" : Str)) = false := by decide)
    (hec : starEach [Expr.Constant (.str txt) j p2] X.env = [(false, eval (Expr.Constant (.str txt) j p2) X.env)] := by rfl)
    (he : starEach (ea :: es) X.env = (false, eval ea X.env) :: starEach es X.env := by rfl) (hpl : (backTo pos (starEach es X.env)).any (·.1) = false := by rfl)
    (hsw : swapsWith (.Call (.Name x p) (ea :: es) [] pos) none pa.line X.env = pure false := by rfl) :
    QX X W (.Try [.Expr (.Call (.Name x p) (ea :: es) [] pos) pa] [.ExceptHandler (some tE) (some ne) [.Raise (some (.Call (.Name c np) [.Constant (.str txt) j p2] [] cpos)) (some (.Name ne p3)) rpos] hpos] [] [] tpos) (xTryR n F m tk c) := by
  obtain ⟨f, fd, ps, G, hb, hkp, hm⟩ := C.ex
  intro pins s σ H D I ⟨B, ρ, O', fp, o, R, hf, k⟩
  obtain ⟨⟨rs, ρ1⟩, h1, hf⟩ := bind_some hf
  obtain ⟨ss, h2, hf⟩ := bind_some hf
  split at hf
  · rename_i hn
    obtain ⟨r, h3, hf⟩ := bind_some hf
    refine wpAny_Try_except ?_
    refine wpAny_execs_cons ?_
    refine wpAny_Expr_any (thn (eval_callG (Ex := _) (Q := fun _ H2 => D.nx σ H2) (E := fun C _ H2 => (∃ c' ∈ tk, X.mg c' = some C) ∧ W c H2) G hr hg hm hkp hb ha I ⟨B, ρ, O', fp, rs, ρ1, R, h1, fun vs H1 O1 fp1 R1 k1 F1 => ⟨ss, r, hn, ResL.rd R1 k1 h2, h3, ?_⟩⟩ (fun H1 s1 e s' I1 cx => ?_) hdb he hpl) fun v s1 ⟨z, H1, I1, r1, q1⟩ => ?_) I.quiet hsw
    · cases r with
      | v s0 =>
        obtain ⟨t, h4, hf2⟩ := bind_some hf
        cases hf2
        obtain ⟨rfl, hfr⟩ := fresh_of h4
        exact R1.good (fun v H' O' R' k' F' => k σ H' O' _ R' (F1.trans F')) hfr
      | x c' =>
        have hf2 : (if c' ∈ tk then some (OutX.ex c) else none) = some o := hf
        by_cases hc : c' ∈ tk
        · rw [if_pos hc] at hf2
          cases hf2
          exact fun C H' hm' sm => ⟨⟨c', hc, hm'⟩, k _ _ _ _ _ (R1.grow sm)⟩
        · rw [if_neg hc] at hf2; cases hf2
    · refine hand_from L I1 cx hst hfr hN hi hk O hgc (fun C H2 ⟨⟨c', hc, hm'⟩, hw⟩ => ?_) hd hdn hcn hec
      obtain ⟨Ca, e1, e2, e3⟩ := ht c' hc
      rw [e1] at hm'; cases hm'
      exact ⟨e2, ⟨Ca, rfl, e3⟩, hw⟩
    · exact wpAny_execs_nil (wpAny_execs_nil ⟨_, H1, I1, q1⟩)
  · cases hf
end
end Mi
namespace Mi
open PySem L2
open PySem.Spec
variable {K : PySem.W.Frag} {H H' : Hp} {O O' : Addr → Prop} {fp fp' : Nat → List Addr} {B : Hp} {ρ ρ' : En} {σ : L2.St}
noncomputable def tMarks2 (ie im : Nat) (a : Addr) (bs1 bs2 : List Bool) : TS := fun D σ H => σ[ie]? = some (some (.ref a)) ∧ im < σ.length ∧ ∀ q1 q2 q3, H q1 = none → upd H q1 (.lst (bs1.map .bl)) q2 = none → upd (upd H q1 (.lst (bs1.map .bl))) q2 (.lst (bs2.map .bl)) q3 = none →
  D.nx (σ.set im (some (.ref q3))) (upd (upd (upd H q1 (.lst (bs1.map .bl))) q2 (.lst (bs2.map .bl))) q3 (.lst (bs1.map .bl ++ bs2.map .bl)))
section
variable {X : Cx} {ie im : Nat} {C : Addr} {es es2 : List Expr} {bs1 bs2 : List Bool} {mk : Str}
theorem ps_marks2 {pm lp ap pm2 pm3 lp2 bp ap2 : Pos} {a : Addr} {oe : Obj} (h1 : IsXs X ie C es bs1) (h2 : IsXs X ie C es2 bs2) (ho : oe.cls = Value.ref C) (hl : bs1.length ≤ 1000) (hl2 : bs2.length ≤ 1000) (hne : ie ≠ im) (hN : X.N.Nodup) (hi : X.N[im]? = some mk) (hk : X.env.scope.names.lookup mk = some .local)
    (hs : swapsWith (.List es lp) (some (.Name mk pm)) ap.line X.env = pure false) (hs2 : swapsWith (.BinOp (.Name mk pm3) .Add (.List es2 lp2) bp) (some (.Name mk pm2)) ap2.line X.env = pure false)
    (hd : (mk == ("__debug__" : Str)) = false := by decide) (hcd : (mk == ("__classdict__" : Str)) = false := by decide) :
    PSs (pinned X a oe) [.Assign [.Name mk pm] (.List es lp) ap, .Assign [.Name mk pm2] (.BinOp (.Name mk pm3) .Add (.List es2 lp2) bp) ap2] (tMarks2 ie im a bs1 bs2) := by
  have st1 := ps_set (X := pinned X a oe) hN hi (.inl hk) (pe_lst (h1 a oe ho)) hs (.inr hk)
  have st2 := ps_set (X := pinned X a oe) (pos := ap2) (pos' := pm2) hN hi (.inl hk) (pe_op (pos := bp) (op_catQ (X := pinned X a oe)) (pe_var (X := pinned X a oe) (pos := pm3) hi (.inl hk) hd hcd) (pe_lst (pos := lp2) (h2 a oe ho))) hs2 (.inr hk)
  refine (pss_cons st1 (pss_one st2)).imp fun D σ H ⟨he, hlt, k⟩ => ⟨he, by rw [List.length_map]; exact Nat.le_trans hl (by decide), fun q1 hq1 => ?_⟩
  refine ⟨.ref q1, List.getElem?_set_self hlt, by rw [List.getElem?_set_ne (Ne.symm hne)]; exact he, by rw [List.length_map]; exact Nat.le_trans hl2 (by decide), fun q2 hq2 => ?_⟩
  have n12 : q1 ≠ q2 := fun z => by rw [z, upd_same] at hq2; cases hq2
  refine ⟨q1, q2, bs1.map .bl, bs2.map .bl, rfl, rfl, SqL.of (by rw [upd_ne n12]; exact upd_same), SqL.of upd_same, by rw [List.length_map, List.length_map]; exact Nat.le_trans (Nat.add_le_add hl hl2) (by decide), fun q3 hq3 => ?_⟩
  have := k q1 q2 q3 hq1 hq2 hq3
  show D.nx ((σ.set im (some (.ref q1))).set im (some (.ref q3))) _
  rw [List.set_set]
  exact this
end
noncomputable def mRef (n : Nat) (F : List Slot → Option ResX) (m : M (List R)) : En → Option (Str × En) := fun ρ => (m ρ).bind fun x => (drs x.2 x.1).bind fun ss => if ss.length = n then (F ss).bind fun r => match r with
    | .v _ => none
    | .x c => some (c, x.2)
  else none
noncomputable def sTryB (c : M Bool) (r1 r2 : En → Option (Str × En)) (ie im : Nat) (tbl : Str → Option (List Bool)) : MS := fun ρ => (c ρ).bind fun b => (if b.1 = true then r1 b.2 else r2 b.2).bind fun x => (tbl x.1).bind fun bs =>
  if im < x.2.length ∧ ie ≠ im ∧ isNo x.2 ie = true then some (.nx (x.2.set im (some (.own (bs.map .bl))))) else none
section
variable {X : Cx} {ie im : Nat} {xc n mk : Str} {cD : Value} {ms ms2 : List Expr} {np hpos pm lp ap pm2 pm3 lp2 bp ap2 : Pos}
noncomputable def TbOk2 (X : Cx) (ie : Nat) (ms ms2 : List Expr) (cD : Value) (tbl : Str → Option (List Bool)) : Prop := ∀ c C bs, tbl c = some bs → X.mg c = some C → PySem.W.exmOne X.K C cD = some true ∧ ∃ Ca bs1 bs2, C = .ref Ca ∧ IsXs X ie Ca ms bs1 ∧ IsXs X ie Ca ms2 bs2 ∧ bs1.length ≤ 1000 ∧ bs2.length ≤ 1000 ∧ bs = bs1 ++ bs2
theorem isl_bls2 (bs1 bs2 : List Bool) : IsL K H ((bs1 ++ bs2).map .bl) (bs1.map .bl ++ bs2.map .bl) := by
  rw [← List.map_append]
  exact isl_bls _
theorem hand_as2 {pins : List (Addr × Obj)} {σ : L2.St} {H1 : Hp} {s1 s' : Shared} {D : Ends} {e : Value} {B H : Hp} {ρ1 : En} {O : Addr → Prop} {fp : Nat → List Addr} {tbl : Str → Option (List Bool)} {c : Str} {bs : List Bool} (I1 : Inv X pins σ H1 s1)
    (cx : CX1 X.prog X.w X.stack H1 s1 (fun C _ H2 => X.mg c = some C ∧ ∃ O2 fp2, Rel X.K B ρ1 σ H2 O2 fp2 ∧ Fr H O fp H2 O2 fp2) e s') (ht : TbOk2 X ie ms ms2 cD tbl) (hb : tbl c = some bs) (hlt : im < ρ1.length) (hne : ie ≠ im) (hno : isNo ρ1 ie = true)
    (k : ∀ σ' H' O' fp', Rel X.K B (ρ1.set im (some (.own (bs.map .bl)))) σ' H' O' fp' → Fr H O fp H' O' fp' → D.nx σ' H')
    (hst : X.stack = X.env :: X.outer) (hfr : X.env.frame = some X.env.locals) (hg : Gl X xc) (hm : X.mg xc = some cD) (hN : X.N.Nodup) (hi : X.N[ie]? = some n) (hk : X.env.scope.names.lookup n = some .local) (him : X.N[im]? = some mk) (hkm : X.env.scope.names.lookup mk = some .local)
    (hs : swapsWith (.List ms lp) (some (.Name mk pm)) ap.line X.env = pure false) (hs2 : swapsWith (.BinOp (.Name mk pm3) .Add (.List ms2 lp2) bp) (some (.Name mk pm2)) ap2.line X.env = pure false)
    (hd : (xc == ("__debug__" : Str)) = false) (hdm : (mk == ("__debug__" : Str)) = false) (hcm : (mk == ("__classdict__" : Str)) = false) :
    wpAny (model X.prog X.w) X.A (noteFrame e X.env) (fun _ s₂ => wpAny (model X.prog X.w) X.A (setFlight e none) (fun _ s₃ => wpAny (model X.prog X.w) X.A (handleBy e X.env [.ExceptHandler (some (.Name xc np)) (some n) [.Assign [.Name mk pm] (.List ms lp) ap, .Assign [.Name mk pm2] (.BinOp (.Name mk pm3) .Add (.List ms2 lp2) bp) ap2] hpos]) (SP X pins D) X.xe s₃) X.xe s₂) X.xe s' := by
  refine caughtAs I1 cx hst hfr hg hm hd hN hi hk fun C H2 ⟨hmC, O2, fp2, R2', F2⟩ => ?_
  obtain ⟨h5, Ca, bs1, bs2, rfl, h6, h7, h8, h9, rfl⟩ := ht c C _ hb hmC
  refine ⟨h5, fun a oe s2 ho I2 => ?_⟩
  have hno' := isNo_of hno
  have lσ : σ.length = X.N.length := I1.len
  refine ps_marks2 h6 h7 ho h8 h9 hne hN him hkm hs hs2 hdm hcm pins s2 _ H2 _ I2 ⟨List.getElem?_set_self (by rw [lσ]; exact (List.getElem?_eq_some_iff.mp hi).1), by rw [List.length_set, lσ]; exact (List.getElem?_eq_some_iff.mp him).1, fun q1 q2 q3 f1 f2 f3 => ?_⟩
  have R2 : Rel X.K B ρ1 (σ.set ie (some (.ref a))) H2 O2 fp2 := rel_any R2' _ fun s z => by rw [hno'] at z; cases z
  have sm1 := same_new f1 (.lst (bs1.map .bl))
  have sm2 := same_new f2 (.lst (bs2.map .bl))
  have sm3 := same_new f3 (.lst (bs1.map .bl ++ bs2.map .bl))
  have s12 : Same H2 (upd (upd H2 q1 (.lst (bs1.map .bl))) q2 (.lst (bs2.map .bl))) := fun b o h => sm2 b o (sm1 b o h)
  have R3 := R2.grow s12
  have G : Good X.K (upd (upd H2 q1 (.lst (bs1.map .bl))) q2 (.lst (bs2.map .bl))) (.own ((bs1 ++ bs2).map .bl)) (fun v H4 => D.nx (((σ.set ie (some (.ref a))).set im (some v)).set ie none) H4) := by
    refine R3.good (fun v H4 O4 R4 k' F' => ?_) True.intro
    obtain ⟨g, hs, nd, hfl⟩ := k'
    refine k _ H4 O4 _ (rel_any (R4.set hs nd (fun a ha => (hfl a ha).1) hlt) none fun s z => ?_) ((F2.trans (Fr.grow R2 s12)).trans (F'.set im fun a ha => (hfl a ha).2))
    rw [List.getElem?_set_ne hne.symm, hno'] at z
    cases z
  exact G q3 _ _ sm3 f3 upd_same (isl_bls2 bs1 bs2)
theorem qs_tryB {c : Expr} {mc : M Bool} {k1 k2 n1 n2 : Nat} {x1 x2 : Str} {a1 a2 : Expr} {as1 as2 : List Expr} {m1 m2 : M (List R)} {F1 F2 : List Slot → Option ResX} {tbl : Str → Option (List Bool)} {p1 p2 pos1 pos2 pa1 pa2 ipos tpos : Pos}
    (hc : QT X c mc) (C1 : CalX X.prog X.w X.K X.mg X.base k1 x1 n1 F1) (hr1 : Room k1 X.A) (hg1 : Gl X x1) (ha1 : QA X (a1 :: as1) m1) (C2 : CalX X.prog X.w X.K X.mg X.base k2 x2 n2 F2) (hr2 : Room k2 X.A) (hg2 : Gl X x2) (ha2 : QA X (a2 :: as2) m2)
    (hx0 : ∀ e s, X.xe e s → False) (ht : TbOk2 X ie ms ms2 cD tbl)
    (hst : X.stack = X.env :: X.outer) (hfr : X.env.frame = some X.env.locals) (hg : Gl X xc) (hm : X.mg xc = some cD) (hN : X.N.Nodup) (hi : X.N[ie]? = some n) (hk : X.env.scope.names.lookup n = some .local) (him : X.N[im]? = some mk) (hkm : X.env.scope.names.lookup mk = some .local)
    (hs : swapsWith (.List ms lp) (some (.Name mk pm)) ap.line X.env = pure false := by rfl) (hs2 : swapsWith (.BinOp (.Name mk pm3) .Add (.List ms2 lp2) bp) (some (.Name mk pm2)) ap2.line X.env = pure false := by rfl)
    (hd : (xc == ("__debug__" : Str)) = false := by decide) (hdm : (mk == ("__debug__" : Str)) = false := by decide) (hcm : (mk == ("__classdict__" : Str)) = false := by decide)
    (hd1 : (x1 == ("__debug__" : Str)) = false := by decide) (hd2 : (x2 == ("__debug__" : Str)) = false := by decide)
    (he1 : starEach (a1 :: as1) X.env = (false, eval a1 X.env) :: starEach as1 X.env := by rfl) (hpl1 : (backTo pos1 (starEach as1 X.env)).any (·.1) = false := by rfl) (hsw1 : swapsWith (.Call (.Name x1 p1) (a1 :: as1) [] pos1) none pa1.line X.env = pure false := by rfl)
    (he2 : starEach (a2 :: as2) X.env = (false, eval a2 X.env) :: starEach as2 X.env := by rfl) (hpl2 : (backTo pos2 (starEach as2 X.env)).any (·.1) = false := by rfl) (hsw2 : swapsWith (.Call (.Name x2 p2) (a2 :: as2) [] pos2) none pa2.line X.env = pure false := by rfl) :
    QS X (.Try [.If c [.Expr (.Call (.Name x1 p1) (a1 :: as1) [] pos1) pa1] [.Expr (.Call (.Name x2 p2) (a2 :: as2) [] pos2) pa2] ipos]
      [.ExceptHandler (some (.Name xc np)) (some n) [.Assign [.Name mk pm] (.List ms lp) ap, .Assign [.Name mk pm2] (.BinOp (.Name mk pm3) .Add (.List ms2 lp2) bp) ap2] hpos] [] [] tpos) (sTryB mc (mRef n1 F1 m1) (mRef n2 F2 m2) ie im tbl) := by
  intro pins s σ H D I ⟨B, ρ, O, fp, o, R, hf, k⟩
  obtain ⟨⟨b, ρ0⟩, h1, hf⟩ := bind_some hf
  obtain ⟨⟨cc, ρ1⟩, h2, hf⟩ := bind_some hf
  obtain ⟨bs, h3, hf⟩ := bind_some hf
  have hf' : (if im < ρ1.length ∧ ie ≠ im ∧ isNo ρ1 ie = true then some (Out.nx (ρ1.set im (some (.own (bs.map .bl))))) else none) = some o := hf
  by_cases hz : im < ρ1.length ∧ ie ≠ im ∧ isNo ρ1 ie = true
  · rw [if_pos hz] at hf'
    cases hf'
    obtain ⟨z1, z2, z3⟩ := hz
    have one : ∀ {kk nn : Nat} {x : Str} {a : Expr} {as : List Expr} {m : M (List Mi.R)} {F : List Slot → Option ResX} {p pos pa : Pos} {H0 : Hp} {O0' : Addr → Prop} {fp0 : Nat → List Addr} {s0 : Shared} {QQ : Flow → Shared → Prop}, CalX X.prog X.w X.K X.mg X.base kk x nn F → Room kk X.A → Gl X x → QA X (a :: as) m → (x == ("__debug__" : Str)) = false →
        starEach (a :: as) X.env = (false, eval a X.env) :: starEach as X.env → (backTo pos (starEach as X.env)).any (·.1) = false → swapsWith (.Call (.Name x p) (a :: as) [] pos) none pa.line X.env = pure false → mRef nn F m ρ0 = some (cc, ρ1) → Inv X pins σ H0 s0 → Rel X.K B ρ0 σ H0 O0' fp0 → Fr H O fp H0 O0' fp0 →
        wpAny (model X.prog X.w) X.A (execs [.Expr (.Call (.Name x p) (a :: as) [] pos) pa] X.env) QQ
          (fun e s' => wpAny (model X.prog X.w) X.A (noteFrame e X.env) (fun _ s₂ => wpAny (model X.prog X.w) X.A (setFlight e none) (fun _ s₃ => wpAny (model X.prog X.w) X.A (handleBy e X.env [.ExceptHandler (some (.Name xc np)) (some n) [.Assign [.Name mk pm] (.List ms lp) ap, .Assign [.Name mk pm2] (.BinOp (.Name mk pm3) .Add (.List ms2 lp2) bp) ap2] hpos]) (SP X pins D) X.xe s₃) X.xe s₂) X.xe s') s0 := by
      intro kk nn x a as m F p pos pa H0 O0' fp0 s0 QQ C hr hgx ha hdx he hpl hsw hrf I0 R0 F0
      obtain ⟨f, fd, ps, G, hb, hkp, hmf⟩ := C.ex
      obtain ⟨⟨rs, ρ2⟩, w1, hrf⟩ := bind_some hrf
      obtain ⟨ss, w2, hrf⟩ := bind_some hrf
      split at hrf
      · rename_i hn
        obtain ⟨r, w3, hrf⟩ := bind_some hrf
        cases r with
        | v s1 => cases hrf
        | x c' =>
          cases hrf
          refine wpAny_execs_cons (wpAny_Expr_any (wpAny_mono (eval_callX (Ex := fun e s' => ∃ H1 s1, Inv X pins σ H1 s1 ∧ CX1 X.prog X.w X.stack H1 s1 (fun C _ H2 => X.mg cc = some C ∧ ∃ O2 fp2, Rel X.K B ρ2 σ H2 O2 fp2 ∧ Fr H O fp H2 O2 fp2) e s') (Q := fun _ _ => False) G hr hgx hmf hkp hb ha hx0 I0
            ⟨B, ρ0, O0', fp0, rs, ρ2, R0, w1, fun vs H1 O1 fp1 R1 k1 F1 => ⟨ss, .x cc, hn, ResL.rd R1 k1 w2, w3, fun C H2 hmC sm => ⟨hmC, O1, fp1, R1.grow sm, (F0.trans F1).trans (Fr.grow R1 sm)⟩⟩⟩ (fun H1 s1 e s' I1 cx => ⟨H1, s1, I1, cx⟩) hdx he hpl) (fun v s1 ⟨_, _, _, _, z⟩ => z.elim) fun e s' ⟨H1, s1, I1, cx⟩ => ?_) I0.quiet hsw)
          exact hand_as2 I1 cx ht h3 z1 z2 z3 k hst hfr hg hm hN hi hk him hkm hs hs2 hd hdm hcm
      · cases hrf
    refine wpAny_Try_except ?_
    refine wpAny_execs_cons (wpAny_If (wpAny_mono (hc pins s σ H (fun b' H0 => b' = b ∧ ∃ O0 fp0, Rel X.K B ρ0 σ H0 O0 fp0 ∧ Fr H O fp H0 O0 fp0) I ⟨B, ρ, O, fp, b, ρ0, R, h1, fun H0 O0 fp0 R0 F0 => ⟨rfl, O0, fp0, R0, F0⟩⟩) (fun b' s0 q => ?_) fun e s' z => (hx0 e s' z).elim))
    obtain ⟨H0, I0, rfl, O0, fp0, R0, F0⟩ := q
    cases b' with
    | true =>
      rw [if_pos rfl]
      have h2' : mRef n1 F1 m1 ρ0 = some (cc, ρ1) := h2
      exact one C1 hr1 hg1 ha1 hd1 he1 hpl1 hsw1 h2' I0 R0 F0
    | false =>
      rw [if_neg Bool.false_ne_true]
      have h2' : mRef n2 F2 m2 ρ0 = some (cc, ρ1) := h2
      exact one C2 hr2 hg2 ha2 hd2 he2 hpl2 hsw2 h2' I0 R0 F0
  · rw [if_neg hz] at hf'; cases hf'
end
end Mi
namespace Mi
open PySem L2
open PySem.Spec
variable {K : PySem.W.Frag} {H H' : Hp} {O O' : Addr → Prop} {fp fp' : Nat → List Addr} {B : Hp} {ρ ρ' : En} {σ : L2.St}
noncomputable def gLenS : List Slot → Option Slot := fun ss => match ss with
  | [.val (.str x)] => if x.length < big then some (.val (.int x.length)) else none
  | _ => none
theorem sr_lenS : SR K gLenS (fun xs H Q => ∃ z, xs = [.str z] ∧ z.length ≤ sizeLine ∧ Q (.int z.length) H) := fun H ss vs s Q hr h k => by
  unfold gLenS at h
  split at h
  · rename_i x
    split at h
    · rename_i hz
      cases h
      obtain ⟨v, us, rfl, h1, hu⟩ := hr
      have hu : us = [] := hu
      subst hu
      have h1 : v = .str x := h1.1
      subst h1
      exact ⟨x, rfl, Nat.le_of_lt (big_line hz), k _ H (Same.refl H) rfl⟩
    · cases h
  · cases h
noncomputable def rSlS : V → Option Int → Option Int → Hp → VK → Prop := fun x lo hi H Q => ∃ z, x = .str z ∧ z.length ≤ sizeLine ∧ Q (.str (Txt.slice z lo hi)) H
section
variable {X : Cx} {e : Expr} {p2 pos : Pos}
theorem sl_str : SlR X rSlS := by
  intro pins s σ H x v vl vu lo hi sl Q I rx hs pl pu h
  obtain ⟨z, rfl, hz, q⟩ := h
  obtain ⟨t, rfl⟩ := rx
  refine ⟨"str", _, F.slot_str_getitem.lookup, typeIs_str _ _ _, ?_⟩
  cases pl with
  | none =>
    cases pu with
    | none => exact wpAny_getItem_str_slice (l := none) (u := none) (st := none) hs rfl (post_val_or_str ⟨Nat.le_trans (Txt.slice_le z _ _) hz, fun t' k => ⟨.str _, H, I.tok _, ⟨_, rfl⟩, q⟩⟩)
    | int j uj => exact wpAny_getItem_str_slice (l := none) (u := some (j, uj)) (st := none) hs rfl (post_val_or_str ⟨Nat.le_trans (Txt.slice_le z _ _) hz, fun t' k => ⟨.str _, H, I.tok _, ⟨_, rfl⟩, q⟩⟩)
  | int i ui =>
    cases pu with
    | none => exact wpAny_getItem_str_slice (l := some (i, ui)) (u := none) (st := none) hs rfl (post_val_or_str ⟨Nat.le_trans (Txt.slice_le z _ _) hz, fun t' k => ⟨.str _, H, I.tok _, ⟨_, rfl⟩, q⟩⟩)
    | int j uj => exact wpAny_getItem_str_slice (l := some (i, ui)) (u := some (j, uj)) (st := none) hs rfl (post_val_or_str ⟨Nat.le_trans (Txt.slice_le z _ _) hz, fun t' k => ⟨.str _, H, I.tok _, ⟨_, rfl⟩, q⟩⟩)
noncomputable def gSlS (lo hi : Option Int) : Slot → Option Slot
  | .val (.str x) => if x.length < big then some (.val (.str (Txt.slice x lo hi))) else none
  | _ => none
noncomputable def mSlS (f : M R) (l u : M (Option Int)) : M R := fun ρ => (f ρ).bind fun x => (l x.2).bind fun y => (u y.2).bind fun z => (dr z.2 x.1).bind fun s => (gSlS y.1 z.1 (rdS s)).bind fun t => some (.of t, z.2)
theorem q_sliceS {lo hi : Option Expr} {f : M R} {l u : M (Option Int)} (ha : QE X e f) (hl : QO X lo l) (hu : QO X hi u) : QE X (.Subscript e (.Slice lo hi none p2) pos) (mSlS f l u) :=
  (pe_slice sl_str ha hl hu).imp fun σ H Q ⟨B, ρ, O, fp, r, ρ', R, hf, k⟩ => by
    obtain ⟨⟨x, ρ1⟩, h1, hf⟩ := bind_some hf
    obtain ⟨⟨vl, ρ2⟩, h2, hf⟩ := bind_some hf
    obtain ⟨⟨vh, ρ3⟩, h3, hf⟩ := bind_some hf
    obtain ⟨s, g3, hf⟩ := bind_some hf
    obtain ⟨t, g4, hf⟩ := bind_some hf
    cases hf
    refine ⟨B, ρ, O, fp, x, ρ1, R, h1, fun v H1 O1 fp1 R1 k1 F1 => ?_⟩
    refine ⟨B, ρ1, O1, fp1, vl, ρ2, R1, h2, fun H2 O2 fp2 R2 F2 => ?_⟩
    refine ⟨B, ρ2, O2, fp2, vh, ρ3, R2, h3, fun H3 O3 fp3 R3 F3 => ?_⟩
    have F13 := F2.trans F3
    obtain ⟨ff, hs⟩ := R3.dr (k1.fr F13 R1.lst) g3
    have hr := hs.rd
    have F := F1.trans F13
    generalize rdS s = s' at g4 hr
    unfold gSlS at g4
    split at g4
    · rename_i y
      split at g4
      · rename_i hz
        cases g4
        have gd := R3.good (s := .val (.str (Txt.slice y vl vh))) (Q := Q) (fun v' H' O' R' k' F' => k v' H' O' fp3 R' (k'.back F.fl) (F.trans F')) trivial
        have hr : v = .str y := hr.1
        subst hr
        exact ⟨y, rfl, Nat.le_of_lt (big_line hz), gd _ _ (Same.refl _) rfl⟩
      · cases g4
    · cases g4
end
noncomputable def mOpX (g : List Slot → Option Slot) (f : MXE) : MXE := fun ρ => (f ρ).bind fun o => match o with
  | .x c => some (.x c)
  | .v r ρ' => (drs ρ' [r]).bind fun ss => (g ss).bind fun s => (fresh s).bind fun t => some (.v (.of t) ρ')
section
variable {X : Cx} {W : Str → Hp → Prop} {e : Expr} {p pos : Pos} {x : Str} {T : String} {r : List V → Hp → VK → Prop} {w : List Slot → Option Slot} {f : MXE}
theorem qe_callTy (hc : CallR X (.type T) r) (hw : SR X.K w r) (hg : Gl X x) (hm : X.mg x = none) (hv : bootBuiltins x = some (.type T)) (ha : QEX X W e f) (hn : x ≠ "__name__" := by decide) (hdb : (x == ("__debug__" : Str)) = false := by decide)
    (he : starEach [e] X.env = (false, eval e X.env) :: starEach [] X.env := by rfl) (hpl : (backTo pos (starEach [] X.env)).any (·.1) = false := by rfl) : QEX X W (.Call (.Name x p) [e] [] pos) (mOpX w f) :=
  (pe_callTy hc hg hm hv (pa_cons ha pa_nil he) hn hdb he hpl).imp fun σ H Q ⟨B, ρ, O, fp, o, R, hf, k⟩ => by
    obtain ⟨o1, h1, hf⟩ := bind_some hf
    refine ⟨B, ρ, O, fp, o1, R, h1, ?_⟩
    cases o1 with
    | x c => cases hf; exact k
    | v r1 ρ1 =>
      obtain ⟨ss, h2, hf⟩ := bind_some hf
      obtain ⟨s, h3, hf⟩ := bind_some hf
      obtain ⟨t, h4, hf⟩ := bind_some hf
      cases hf
      obtain ⟨rfl, hfr⟩ := fresh_of h4
      intro v H1 O1 fp1 R1 k1 F1
      refine hw H1 ss [v] t _ (ResL.rd R1 (rs := [r1]) (vs := [v]) ⟨v, [], rfl, k1, rfl⟩ h2) h3 ?_
      exact R1.good (fun v H' O' R' k' F' => k v H' O' _ R' (k'.back F1.fl) (F1.trans F')) hfr
end
theorem exm_two1 {C c1 c2 : Value} {b : Bool} (h1 : PySem.W.exmOne K C c1 = some true) (h2 : PySem.W.exmOne K C c2 = some b) : PySem.W.exmAny K C [c1, c2] = some true := by
  unfold PySem.W.exmAny PySem.W.exmAny PySem.W.exmAny
  rw [h1, h2]
  rfl
theorem exm_two2 {C c1 c2 : Value} {b : Bool} (h1 : PySem.W.exmOne K C c1 = some b) (h2 : PySem.W.exmOne K C c2 = some true) : PySem.W.exmAny K C [c1, c2] = some true := by
  unfold PySem.W.exmAny PySem.W.exmAny PySem.W.exmAny
  rw [h1, h2]
  cases b <;> rfl
noncomputable abbrev TrOk (X : Cx) (tE : Expr) (tk : List Str) : Prop := ∀ c' ∈ tk, ∃ Ca, X.mg c' = some (.ref Ca) ∧ TestX X tE (.ref Ca) ∧ PySem.W.excIn X.K Ca vBases "ValueError.__new__" = true
theorem tr_nil {X : Cx} {tE : Expr} : TrOk X tE [] := fun c h => by simp at h
theorem tr_cons {X : Cx} {tE : Expr} {c : Str} {Ca : Addr} {r : List Str} (b : X.mg c = some (.ref Ca)) (t : TestX X tE (.ref Ca)) (e : PySem.W.excIn X.K Ca vBases "ValueError.__new__" = true) (h : TrOk X tE r) : TrOk X tE (c :: r) := fun c' hc => by
  rcases List.mem_cons.mp hc with rfl | hc
  · exact ⟨Ca, b, t, e⟩
  · exact h c' hc
theorem tb2_one {X : Cx} {ie : Nat} {ms ms2 : List Expr} {cD : Value} {c1 : Str} {C1 : Addr} {bs1 bs2 : List Bool} (b1 : X.mg c1 = some (.ref C1)) (e1 : PySem.W.exmOne X.K (.ref C1) cD = some true) (h : IsXs X ie C1 ms bs1) (h2 : IsXs X ie C1 ms2 bs2) (hl : bs1.length ≤ 1000) (hl2 : bs2.length ≤ 1000) :
    TbOk2 X ie ms ms2 cD (tbC c1 (bs1 ++ bs2) tb0) := fun c C bs' q hm => by
  have q' : (if c == c1 then some (bs1 ++ bs2) else tb0 c) = some bs' := q
  by_cases z : (c == c1) = true
  · rw [if_pos z] at q'
    cases q'
    rw [beq_iff_eq] at z
    subst z
    rw [b1] at hm; cases hm
    exact ⟨e1, C1, bs1, bs2, rfl, h, h2, hl, hl2, rfl⟩
  · rw [if_neg z] at q'
    cases q'
noncomputable def mStrs : List Str → M (List R)
  | [] => mNil
  | x :: xs => mCons (mC (.str x)) (mStrs xs)
noncomputable def strsE : List Expr → Option (List Str)
  | [] => some []
  | .Constant (.str x) _ _ :: es => (strsE es).bind fun r => some (x :: r)
  | _ :: _ => none
theorem qa_allStr {X : Cx} : ∀ {es : List Expr} {xs : List Str}, strsE es = some xs → QA X es (mStrs xs)
  | [], xs, h => by
    have h : some [] = some xs := h
    cases h
    exact qa_nil
  | e :: es, xs, h => by
    unfold strsE at h
    split at h
    · rename_i z
      cases z
    · rename_i x j p es' z
      cases z
      obtain ⟨r, h1, h2⟩ := bind_some h
      cases h2
      exact qa_cons q_str (qa_allStr h1)
    · cases h
noncomputable def getE : Stmt → List Expr
  | .Assign _ (.List es _) _ => es
  | .Assign _ (.Subscript (.List es _) _ _) _ => es
  | _ => []
noncomputable def putE (es : List Expr) : Stmt → Stmt
  | .Assign ts (.List _ p) q => .Assign ts (.List es p) q
  | .Assign ts (.Subscript (.List _ p) i r) q => .Assign ts (.Subscript (.List es p) i r) q
  | st => st
noncomputable def ifA (B : List Stmt) : Stmt := match B.getD 4 (.Pass ⟨0, 0, 0, 0⟩) with
  | .If _ (a :: _) _ _ => a
  | st => st
noncomputable def ifB (B : List Stmt) : Stmt := match B.getD 4 (.Pass ⟨0, 0, 0, 0⟩) with
  | .If _ _ [.If _ (a :: _) _ _] _ => a
  | st => st
noncomputable def put2 (es1 es2 : List Expr) : Stmt → Stmt
  | .If c (a :: b) [.If c2 (a2 :: b2) o2 p2] p => .If c (putE es1 a :: b) [.If c2 (putE es2 a2 :: b2) o2 p2] p
  | st => st
noncomputable def putX (es1 es2 : List Expr) : List Stmt → List Stmt
  | a :: b :: c :: d :: e :: r => a :: b :: c :: d :: put2 es1 es2 e :: r
  | B => B
end Mi
namespace Bd
noncomputable abbrev Fn := Int → Int → Int
noncomputable def Per (w h : Int) (f : Fn) : Prop := (∀ x y, f (x + w) y = f x y) ∧ ∀ x y, f x (y + h) = f x y
noncomputable def num (c a b d e : Int) : Int := ((a * c + b) * c + d) * c + e
noncomputable def dg (c n i j : Int) : Int := if i = 0 then (if j = 0 then n / c ^ 3 % c else n / c ^ 2 % c) else (if j = 0 then n / c % c else n % c)
noncomputable def Col (c : Int) : Prop := c = 2 ∨ c = 3
noncomputable def InR (c : Int) (f : Fn) : Prop := ∀ x y, 0 ≤ f x y ∧ f x y < c
noncomputable def bn (c : Int) (f : Fn) (X Y : Int) : Int := num c (f X Y) (f (X + 1) Y) (f X (Y + 1)) (f (X + 1) (Y + 1))
noncomputable def stp (c : Int) (r : Int → Int) (s : Int) (f : Fn) : Fn := fun x y => dg c (r (bn c f (x - (x - s) % 2) (y - (y - s) % 2))) ((y - s) % 2) ((x - s) % 2)
structure Inv (c : Int) (r r' : Int → Int) : Prop where
  rng : ∀ n, 0 ≤ n → n < c ^ 4 → 0 ≤ r n ∧ r n < c ^ 4
  rng' : ∀ n, 0 ≤ n → n < c ^ 4 → 0 ≤ r' n ∧ r' n < c ^ 4
  back : ∀ n, 0 ≤ n → n < c ^ 4 → r' (r n) = n
  forth : ∀ n, 0 ≤ n → n < c ^ 4 → r (r' n) = n
noncomputable def mv (a b : Int) (f : Fn) : Fn := fun x y => f (x - a) (y - b)
noncomputable def fwd (c : Int) (r : Int → Int) (m : Int) : Nat → Fn → Fn
  | 0, f => f
  | n + 1, f => stp c r (m + n) (fwd c r m n f)
noncomputable def bwd (c : Int) (r' : Int → Int) (m : Int) : Nat → Fn → Fn
  | 0, f => f
  | n + 1, f => stp c r' (m - 1 - n) (bwd c r' m n f)
noncomputable def row (w : Nat) (g : Int → Int) : List Int := (List.range w).map fun (x : Nat) => g x
noncomputable def bd (w h : Nat) (f : Fn) : List (List Int) := (List.range h).map fun (y : Nat) => row w (fun x => f x y)
theorem row_len (w : Nat) (g : Int → Int) : (row w g).length = w := by simp [row]
theorem bd_len (w h : Nat) (f : Fn) : (bd w h f).length = h := by simp [bd]
theorem row_get {w : Nat} {g : Int → Int} {x : Nat} (h : x < w) : (row w g)[x]? = some (g x) := by simp [row, h]
theorem bd_get {w h : Nat} {f : Fn} {y : Nat} (hy : y < h) : (bd w h f)[y]? = some (row w fun x => f x y) := by simp [bd, hy]
noncomputable def pf (w h : Nat) (b : List (List Int)) : Fn := fun x y => (b.getD (y % h).toNat []).getD (x % w).toNat 0
theorem pf_per {w h : Nat} (b : List (List Int)) : Per w h (pf w h b) := by
  constructor <;> intro x y <;> unfold pf <;> simp
theorem pf_bd {w h : Nat} {b : List (List Int)} (hb : b.length = h) (hr : ∀ r ∈ b, r.length = w) : bd w h (pf w h b) = b := by
  apply List.ext_getElem?
  intro y
  by_cases hy : y < h
  · rw [bd_get hy, List.getElem?_eq_getElem (by omega)]
    congr 1
    have hm := hr _ (List.getElem_mem (show y < b.length by omega))
    apply List.ext_getElem?
    intro x
    by_cases hx : x < w
    · rw [row_get hx]
      unfold pf
      have e1 : ((y : Int) % (h : Int)).toNat = y := by rw [Int.emod_eq_of_lt (by omega) (by omega)]; omega
      have e2 : ((x : Int) % (w : Int)).toNat = x := by rw [Int.emod_eq_of_lt (by omega) (by omega)]; omega
      rw [e1, e2, List.getD_eq_getElem?_getD, List.getD_eq_getElem?_getD, List.getElem?_eq_getElem (show y < b.length by omega)]
      simp only [Option.getD_some]
      rw [List.getElem?_eq_getElem (by omega)]
      rfl
    · rw [List.getElem?_eq_none (by rw [row_len]; omega), List.getElem?_eq_none (by omega)]
  · rw [List.getElem?_eq_none (by rw [bd_len]; omega), List.getElem?_eq_none (by omega)]
theorem pf_rng {w h : Nat} {c : Int} (hc : 0 < c) {b : List (List Int)} (hb : ∀ r ∈ b, ∀ x ∈ r, 0 ≤ x ∧ x < c) : InR c (pf w h b) := by
  intro x y
  unfold pf
  generalize (y % h).toNat = i
  generalize (x % w).toNat = j
  rw [List.getD_eq_getElem?_getD, List.getD_eq_getElem?_getD]
  by_cases hi : i < b.length
  · rw [List.getElem?_eq_getElem hi]
    simp only [Option.getD_some]
    by_cases hj : j < (b[i]).length
    · rw [List.getElem?_eq_getElem hj]
      exact hb _ (List.getElem_mem hi) _ (List.getElem_mem hj)
    · rw [List.getElem?_eq_none (by omega)]
      exact ⟨Int.le_refl _, hc⟩
  · rw [List.getElem?_eq_none (show b.length ≤ i by omega)]
    simp
    exact hc
end Bd
namespace Bd
noncomputable def idn (n : Nat) : List Int := (List.range n).map fun (i : Nat) => (i : Int)
noncomputable def rl (rs : List Int) (n : Int) : Int := rs.getD n.toNat 0
theorem idn_nodup (n : Nat) : (idn n).Nodup := by
  unfold idn
  rw [List.Nodup, List.pairwise_map]
  exact List.nodup_range.imp fun {a b} h e => h (by omega)
theorem getD_eq' {α : Type} {l : List α} {i : Nat} {d : α} (h : i < l.length) : l.getD i d = l[i] := by rw [List.getD_eq_getElem?_getD, List.getElem?_eq_getElem h]; rfl
noncomputable def bkl (rs : List Int) : Nat → List Int
  | 0 => rs
  | k + 1 => (bkl rs k).set (rs.getD k 0).toNat k
noncomputable def nOf (c : Int) : Nat := if c = 2 then 16 else 81
theorem nOf_pow {c : Int} (hc : Col c) : ((nOf c : Nat) : Int) = c ^ 4 := by rcases hc with rfl | rfl <;> rfl
end Bd
namespace Bd
noncomputable def sm (g : Int → Int) : Nat → Int
  | 0 => 0
  | n + 1 => sm g n + g n
noncomputable def sm2 (w h : Nat) (g : Fn) : Int := sm (fun y => sm (fun x => g x y) w) h
noncomputable def bw (c : Int) (W : Int → Int) (n : Int) : Int := W (dg c n 0 0) + W (dg c n 0 1) + (W (dg c n 1 0) + W (dg c n 1 1))
noncomputable def tq (h : Int) (f : Fn) : Fn := fun x y => f y (h - 1 - x)
noncomputable def mi (w : Int) (f : Fn) : Fn := fun x y => f (w - 1 - x) y
noncomputable def tn (c n : Int) : Int := num c (dg c n 1 0) (dg c n 0 0) (dg c n 1 1) (dg c n 0 1)
noncomputable def mn (c n : Int) : Int := num c (dg c n 0 1) (dg c n 0 0) (dg c n 1 1) (dg c n 1 0)
end Bd
namespace Bd
noncomputable def tnk (c : Int) : Nat → Int → Int
  | 0, n => n
  | k + 1, n => tnk c k (tn c n)
noncomputable def tt (c : Int) (t : Nat) (n : Int) : Int := if t < 4 then tnk c t n else tnk c (t % 4) (mn c n)
structure Bij (c : Int) (T : Int → Int) : Prop where
  rng : ∀ n, 0 ≤ n → n < c ^ 4 → 0 ≤ T n ∧ T n < c ^ 4
  inj : ∀ n m, 0 ≤ n → n < c ^ 4 → 0 ≤ m → m < c ^ 4 → T n = T m → n = m
noncomputable def Cj (c : Int) (T r r' : Int → Int) : Prop := ∀ n, 0 ≤ n → n < c ^ 4 → r' (T n) = T (r n)
noncomputable def Rg (c : Int) (r : Int → Int) : Prop := ∀ n, 0 ≤ n → n < c ^ 4 → 0 ≤ r n ∧ r n < c ^ 4
structure Op (c : Int) (G : (Int → Int) → Fn → Fn) : Prop where
  rng : ∀ r f, InR c f → InR c (G r f)
  same : ∀ r r' f, (∀ n, 0 ≤ n → n < c ^ 4 → r' n = r n) → InR c f → G r' f = G r f
  tq : ∀ r r' f h, Rg c r → Cj c (tn c) r r' → h % 2 = 0 → InR c f → G r' (tq h f) = Bd.tq h (G r f)
  mi : ∀ r r' f w, Rg c r → Cj c (mn c) r r' → w % 2 = 0 → InR c f → G r' (mi w f) = Bd.mi w (G r f)
noncomputable def rq (c : Int) (r : Int → Int) : Int → Int := fun n => tn c (r (tn c (tn c (tn c n))))
end Bd
namespace Bd
noncomputable def two (c : Int) (r : Int → Int) (m : Int) (f : Fn) : Fn := fwd c r m 2 f
end Bd
namespace Sh
open PySem L2 Mi
noncomputable def c0_looked : M R := mComp [3] (setN 3) (mRng1 (mCons (mRd 2) mNil)) (mTru (mOpF (gEq true) (mCons (mOpF gIx (mCons (mRd 0) (mCons (mRd 3) mNil))) (mCons (mRd 3) mNil)))) (mRd 3)
noncomputable def m_looked : MS := (sSeq (sSet 2 (mOpF gPow (mCons (mRd 1) (mCons (mC (.int 4)) mNil))))
    (sSeq (sIf (mTru (mOpF (gEq true) (mCons (mOpF gLen (mCons (mRd 0) mNil)) (mCons (mRd 2) mNil)))) sNever sNil)
    (sSeq (sIf (mOr (mTru (mOpF gLt (mCons (mOpF (gOne lowO) (mCons (mFr 0) mNil)) (mCons (mC (.int 0)) mNil)))) (mTru (mOpF gGe (mCons (mOpF (gOne topO) (mCons (mFr 0) mNil)) (mCons (mRd 2) mNil))))) sNever sNil)
    (sSeq (sIf (mTru (mOpF (gEq true) (mCons (mOpF gSet (mCons (mFr 0) mNil)) (mCons (mRd 2) mNil)))) sNever sNil)
    (sRet (mOpF gLen (mCons c0_looked mNil)))))))
noncomputable def F_looked : List Slot → Option Slot := runF 2 4 m_looked
noncomputable def xc0_looked : M R := mComp [3] (setN 3) (mRng1 (mCons (mRd 2) mNil)) (mTru (mOpF (gEq true) (mCons (mOpF gIx (mCons (mRd 0) (mCons (mRd 3) mNil))) (mCons (mRd 3) mNil)))) (mRd 3)
noncomputable def mX_looked : MX := (xSeq (xO (sSet 2 (mOpF gPow (mCons (mRd 1) (mCons (mC (.int 4)) mNil)))))
    (xSeq (xIf (mTru (mOpF (gEq true) (mCons (mOpF gLen (mCons (mRd 0) mNil)) (mCons (mRd 2) mNil)))) (xRaise "NoRule") (xO sNil))
    (xSeq (xIf (mOr (mTru (mOpF gLt (mCons (mOpF (gOne lowO) (mCons (mFr 0) mNil)) (mCons (mC (.int 0)) mNil)))) (mTru (mOpF gGe (mCons (mOpF (gOne topO) (mCons (mFr 0) mNil)) (mCons (mRd 2) mNil))))) (xRaise "NoRule") (xO sNil))
    (xSeq (xIf (mTru (mOpF (gEq true) (mCons (mOpF gSet (mCons (mFr 0) mNil)) (mCons (mRd 2) mNil)))) (xRaise "NotBack") (xO sNil))
    (xO (sRet (mOpF gLen (mCons xc0_looked mNil))))))))
noncomputable def FX_looked : List Slot → Option ResX := runX 2 4 mX_looked
noncomputable def b0_rule_back : MS := (sAsg (setIx 1 (mRd 3)) (mRd 2))
noncomputable def l0_rule_back : MS := sFor (setT 2 (gsCons (setN 2) (gsCons (setN 3) gsNil))) (mEnum (mCons (mFr 0) mNil)) b0_rule_back
noncomputable def m_rule_back : MS := (sSeq (sSet 1 (mOpF gList (mCons (mRd 0) mNil)))
    (sSeq l0_rule_back
    (sRet (mVal 1))))
noncomputable def F_rule_back : List Slot → Option Slot := runF 1 4 m_rule_back
noncomputable def m__law_cell_at : MS := (sSeq (sIf (mTru (mOpF gLt (mCons (mRd 1) (mCons (mOpF gLen (mCons (mRd 0) mNil)) mNil)))) (sRet (mOpF gIx (mCons (mRd 0) (mCons (mRd 1) mNil)))) sNil)
    (sRet (mC (.int 0))))
noncomputable def F__law_cell_at : List Slot → Option Slot := runF 2 2 m__law_cell_at
noncomputable def m__law_whole : MS := (sRet (mBl (mAnd (mTru (mOpF (gIsi "int") (mCons (mRd 0) mNil))) (mNot (mTru (mOpF (gIsi "bool") (mCons (mRd 0) mNil)))))))
noncomputable def F__law_whole : List Slot → Option Slot := runF 1 1 m__law_whole
noncomputable def c0__law_named : M R := mComp [4] (setN 4) (mItS (mFr 2)) mYes (mOpF gSub (mCons (mC (.int 1)) (mCons (mRd 4) mNil)))
noncomputable def c1__law_named : M R := mComp [4] (setN 4) (mItS (mFr 2)) mYes (mOpF gSub (mCons (mC (.int 1)) (mCons (mRd 4) mNil)))
noncomputable def m__law_named : MS := (sSeq (sSet 2 (mOpF gLst' (mCons (mOpF gMod (mCons (mOpF gDiv (mCons (mRd 1) (mCons (mC (.int 8)) mNil))) (mCons (mC (.int 2)) mNil))) (mCons (mOpF gMod (mCons (mOpF gDiv (mCons (mRd 1) (mCons (mC (.int 4)) mNil))) (mCons (mC (.int 2)) mNil))) (mCons (mOpF gMod (mCons (mOpF gDiv (mCons (mRd 1) (mCons (mC (.int 2)) mNil))) (mCons (mC (.int 2)) mNil))) (mCons (mOpF gMod (mCons (mRd 1) (mCons (mC (.int 2)) mNil))) mNil))))))
    (sSeq (sIf (mTru (mOpF (gEq false) (mCons (mRd 0) (mCons (mC (.int 0)) mNil)))) (sSet 2 (mOpF gLst' (mCons (mOpF gIx (mCons (mRd 2) (mCons (mC (.int 2)) mNil))) (mCons (mOpF gIx (mCons (mRd 2) (mCons (mC (.int 0)) mNil))) (mCons (mOpF gIx (mCons (mRd 2) (mCons (mC (.int 3)) mNil))) (mCons (mOpF gIx (mCons (mRd 2) (mCons (mC (.int 1)) mNil))) mNil)))))) sNil)
    (sSeq (sIf (mAnd (mTru (mOpF (gEq false) (mCons (mRd 0) (mCons (mC (.int 1)) mNil)))) (mTru (mOpF (gEq false) (mCons (mOpF gSum (mCons (mRd 2) mNil)) (mCons (mC (.int 1)) mNil))))) (sDrop (mMeth 2 gRev mNil)) (sIf (mAnd (mTru (mOpF (gEq false) (mCons (mRd 0) (mCons (mC (.int 1)) mNil)))) (mAnd (mTru (mOpF (gEq false) (mCons (mOpF gIx (mCons (mRd 2) (mCons (mC (.int 0)) mNil))) (mCons (mOpF gIx (mCons (mRd 2) (mCons (mC (.int 3)) mNil))) mNil)))) (mAnd (mTru (mOpF (gEq false) (mCons (mOpF gIx (mCons (mRd 2) (mCons (mC (.int 1)) mNil))) (mCons (mOpF gIx (mCons (mRd 2) (mCons (mC (.int 2)) mNil))) mNil)))) (mTru (mOpF (gEq false) (mCons (mOpF gSum (mCons (mRd 2) mNil)) (mCons (mC (.int 2)) mNil))))))) (sSet 2 c1__law_named) sNil))
    (sSeq (sIf (mAnd (mTru (mOpF (gEq false) (mCons (mRd 0) (mCons (mC (.int 2)) mNil)))) (mTru (mOpF (gEq true) (mCons (mOpF gSum (mCons (mRd 2) mNil)) (mCons (mC (.int 2)) mNil))))) (sSeq (sSet 3 (mOpF (gEq false) (mCons (mOpF gSum (mCons (mRd 2) mNil)) (mCons (mC (.int 3)) mNil))))
    (sSeq (sSet 2 c0__law_named)
    (sIf (mTru (mRd 3)) (sDrop (mMeth 2 gRev mNil)) sNil))) sNil)
    (sRet (mOpF gAdd (mCons (mOpF gAdd (mCons (mOpF gAdd (mCons (mOpF gMul (mCons (mC (.int 8)) (mCons (mOpF gIx (mCons (mRd 2) (mCons (mC (.int 0)) mNil))) mNil))) (mCons (mOpF gMul (mCons (mC (.int 4)) (mCons (mOpF gIx (mCons (mRd 2) (mCons (mC (.int 1)) mNil))) mNil))) mNil))) (mCons (mOpF gMul (mCons (mC (.int 2)) (mCons (mOpF gIx (mCons (mRd 2) (mCons (mC (.int 2)) mNil))) mNil))) mNil))) (mCons (mOpF gIx (mCons (mRd 2) (mCons (mC (.int 3)) mNil))) mNil))))))))
noncomputable def F__law_named : List Slot → Option Slot := runF 2 5 m__law_named
noncomputable def b0__law_rule_by : MS := (sSeq (sSet 0 (mOpF gMod (mCons (mOpF gAdd (mCons (mOpF gMul (mCons (mRd 0) (mCons (mC (.int 48271)) mNil))) (mCons (mC (.int 29)) mNil))) (mCons (mC (.int 2147483647)) mNil))))
    (sDrop (mMeth 3 gAppend (mCons (mMeth 2 gPopAt (mCons (mOpF gMod (mCons (mOpF gDiv (mCons (mRd 0) (mCons (mC (.int 3)) mNil))) (mCons (mOpF gLen (mCons (mRd 2) mNil)) mNil))) mNil)) mNil))))
noncomputable def l0__law_rule_by : MS := sWhile (mTru (mOpF gGt (mCons (mOpF gLen (mCons (mRd 2) mNil)) (mCons (mC (.int 0)) mNil)))) b0__law_rule_by 100
noncomputable def b1__law_rule_by : MS := (sSeq (sSet 0 (mOpF gMod (mCons (mOpF gAdd (mCons (mOpF gMul (mCons (mRd 0) (mCons (mC (.int 48271)) mNil))) (mCons (mC (.int 7)) mNil))) (mCons (mC (.int 2147483647)) mNil))))
    (sSeq (sSet 5 (mOpF gMod (mCons (mOpF gDiv (mCons (mRd 0) (mCons (mC (.int 5)) mNil))) (mCons (mOpF gLen (mCons (mRd 3) mNil)) mNil))))
    (sSeq (sSet 6 (mOpF gMod (mCons (mOpF gDiv (mCons (mOpF gDiv (mCons (mRd 0) (mCons (mC (.int 11)) mNil))) (mCons (mOpF gLen (mCons (mRd 3) mNil)) mNil))) (mCons (mOpF gLen (mCons (mRd 3) mNil)) mNil))))
    (sAsg (setT 2 (gsCons (setIx 3 (mRd 5)) (gsCons (setIx 3 (mRd 6)) gsNil))) (mOpF gTup' (mCons (mOpF gIx (mCons (mRd 3) (mCons (mRd 6) mNil))) (mCons (mOpF gIx (mCons (mRd 3) (mCons (mRd 5) mNil))) mNil)))))))
noncomputable def l1__law_rule_by : MS := sFor (setN 4) (mRng1 (mCons (mC (.int 3)) mNil)) b1__law_rule_by
noncomputable def c0__law_rule_by : M R := mComp [4] (setN 4) (mItS (mFr 2)) mYes (mOpF (ofLen 2 F__law_named) (mCons (mOpF gMod (mCons (mOpF gDiv (mCons (mRd 0) (mCons (mC (.int 5)) mNil))) (mCons (mC (.int 3)) mNil))) (mCons (mRd 4) mNil)))
noncomputable def c1__law_rule_by : M R := mComp [4] (setN 4) (mRng1 (mCons (mOpF gMul (mCons (mOpF gMul (mCons (mOpF gMul (mCons (mRd 1) (mCons (mRd 1) mNil))) (mCons (mRd 1) mNil))) (mCons (mRd 1) mNil))) mNil)) mYes (mRd 4)
noncomputable def m__law_rule_by : MS := (sSeq (sSet 2 c1__law_rule_by)
    (sSeq (sIf (mTru (mOpF (gEq false) (mCons (mOpF gMod (mCons (mRd 0) (mCons (mC (.int 5)) mNil))) (mCons (mC (.int 0)) mNil)))) (sRet (mIf (mTru (mOpF (gEq false) (mCons (mRd 1) (mCons (mC (.int 2)) mNil)))) c0__law_rule_by (mVal 2))) sNil)
    (sSeq (sSet 3 (mOpF gLst' mNil))
    (sSeq (sIf (mTru (mOpF (gEq false) (mCons (mOpF gMod (mCons (mRd 0) (mCons (mC (.int 5)) mNil))) (mCons (mC (.int 1)) mNil)))) (sSeq (sSet 3 (mOpF gList (mCons (mRd 2) mNil)))
    (sSeq l1__law_rule_by
    (sRet (mVal 3)))) sNil)
    (sSeq l0__law_rule_by
    (sRet (mVal 3)))))))
noncomputable def F__law_rule_by : List Slot → Option Slot := runF 2 7 m__law_rule_by
noncomputable def m_block_of : MS := (sRet (mOpF gTup' (mCons (mOpF gMod (mCons (mOpF gDiv (mCons (mRd 0) (mCons (mOpF gPow (mCons (mRd 1) (mCons (mC (.int 3)) mNil))) mNil))) (mCons (mRd 1) mNil))) (mCons (mOpF gMod (mCons (mOpF gDiv (mCons (mRd 0) (mCons (mOpF gPow (mCons (mRd 1) (mCons (mC (.int 2)) mNil))) mNil))) (mCons (mRd 1) mNil))) (mCons (mOpF gMod (mCons (mOpF gDiv (mCons (mRd 0) (mCons (mRd 1) mNil))) (mCons (mRd 1) mNil))) (mCons (mOpF gMod (mCons (mRd 0) (mCons (mRd 1) mNil))) mNil))))))
noncomputable def F_block_of : List Slot → Option Slot := runF 2 2 m_block_of
noncomputable def b0_number_of : MS := (sSet 2 (mOpF gAdd (mCons (mOpF gMul (mCons (mRd 2) (mCons (mRd 1) mNil))) (mCons (mRd 3) mNil))))
noncomputable def l0_number_of : MS := sFor (setN 3) (mItS (mFr 0)) b0_number_of
noncomputable def m_number_of : MS := (sSeq (sSet 2 (mC (.int 0)))
    (sSeq l0_number_of
    (sRet (mVal 2))))
noncomputable def F_number_of : List Slot → Option Slot := runF 2 4 m_number_of
noncomputable def m_is_size : MS := (sRet (mBl (mAnd (mTru (mChn (mC (.int 2)) (mRd 0) (mC (.int 16)))) (mTru (mOpF (gEq false) (mCons (mOpF gMod (mCons (mRd 0) (mCons (mC (.int 2)) mNil))) (mCons (mC (.int 0)) mNil)))))))
noncomputable def F_is_size : List Slot → Option Slot := runF 1 1 m_is_size
noncomputable def xb0_looked_board : MX := (xSeq (xIf (mTru (mOpF (gEq true) (mCons (mOpF gLen (mCons (mRd 4) mNil)) (mCons (mRd 3) mNil)))) (xRaise "NoBoard") (xO sNil))
    (xIf (mOr (mTru (mOpF gLt (mCons (mOpF (gOne lowO) (mCons (mFr 4) mNil)) (mCons (mC (.int 0)) mNil)))) (mTru (mOpF gGe (mCons (mOpF (gOne topO) (mCons (mFr 4) mNil)) (mCons (mRd 1) mNil))))) (xRaise "NoBoard") (xO sNil)))
noncomputable def xl0_looked_board : MX := xFor (setN 4) (mItS (mFr 0)) xb0_looked_board
noncomputable def mX_looked_board : MX := (xSeq (xO (sSet 2 (mOpF gLen (mCons (mRd 0) mNil))))
    (xSeq (xIf (mNot (mTru (mOpF (ofLen 1 F_is_size) (mCons (mRd 2) mNil)))) (xRaise "NoBoard") (xO sNil))
    (xSeq (xO (sSet 3 (mOpF gLen (mCons (mOpF gIx (mCons (mRd 0) (mCons (mC (.int 0)) mNil))) mNil))))
    (xSeq (xIf (mNot (mTru (mOpF (ofLen 1 F_is_size) (mCons (mRd 3) mNil)))) (xRaise "NoBoard") (xO sNil))
    (xSeq xl0_looked_board
    (xO (sRet (mOpF gTup' (mCons (mRd 3) (mCons (mRd 2) mNil))))))))))
noncomputable def FX_looked_board : List Slot → Option ResX := runX 2 5 mX_looked_board
noncomputable def b0__law_board_by : MS := (sSeq (sSet 0 (mOpF gMod (mCons (mOpF gAdd (mCons (mOpF gMul (mCons (mRd 0) (mCons (mC (.int 48271)) mNil))) (mCons (mC (.int 13)) mNil))) (mCons (mC (.int 2147483647)) mNil))))
    (sDrop (mMeth 6 gAppend (mCons (mOpF gMul (mCons (mOpF gMod (mCons (mOpF gDiv (mCons (mRd 0) (mCons (mC (.int 7)) mNil))) (mCons (mRd 3) mNil))) (mCons (mOpF gInt (mCons (mOpF gGt (mCons (mOpF gMod (mCons (mOpF gDiv (mCons (mRd 0) (mCons (mC (.int 77)) mNil))) (mCons (mC (.int 3)) mNil))) (mCons (mC (.int 0)) mNil))) mNil)) mNil))) mNil))))
noncomputable def l0__law_board_by : MS := sFor (setN 7) (mRng1 (mCons (mRd 1) mNil)) b0__law_board_by
noncomputable def b1__law_board_by : MS := (sSeq (sSet 6 (mOpF gLst' mNil))
    (sSeq l0__law_board_by
    (sDrop (mMeth 4 gAppend (mCons (mOpF gTuple (mCons (mRd 6) mNil)) mNil)))))
noncomputable def l1__law_board_by : MS := sFor (setN 5) (mRng1 (mCons (mRd 2) mNil)) b1__law_board_by
noncomputable def m__law_board_by : MS := (sSeq (sSet 4 (mOpF gLst' mNil))
    (sSeq l1__law_board_by
    (sRet (mOpF gTuple (mCons (mRd 4) mNil)))))
noncomputable def F__law_board_by : List Slot → Option Slot := runF 4 8 m__law_board_by
noncomputable def c0_moved_row : M R := mComp [3] (setN 3) (mRng1 (mCons (mRd 2) mNil)) mYes (mOpF gIx (mCons (mRd 0) (mCons (mOpF gMod (mCons (mOpF gSub (mCons (mRd 3) (mCons (mRd 1) mNil))) (mCons (mRd 2) mNil))) mNil)))
noncomputable def m_moved_row : MS := (sSeq (sSet 2 (mOpF gLen (mCons (mRd 0) mNil)))
    (sRet (mOpF gTuple (mCons c0_moved_row mNil))))
noncomputable def F_moved_row : List Slot → Option Slot := runF 2 4 m_moved_row
noncomputable def c0_moved : M R := mComp [4] (setN 4) (mRng1 (mCons (mRd 3) mNil)) mYes (mOpF (ofLen 2 F_moved_row) (mCons (mOpF gIx (mCons (mRd 0) (mCons (mOpF gMod (mCons (mOpF gSub (mCons (mRd 4) (mCons (mRd 2) mNil))) (mCons (mRd 3) mNil))) mNil))) (mCons (mRd 1) mNil)))
noncomputable def m_moved : MS := (sSeq (sSet 3 (mOpF gLen (mCons (mRd 0) mNil)))
    (sRet (mOpF gTuple (mCons c0_moved mNil))))
noncomputable def F_moved : List Slot → Option Slot := runF 3 5 m_moved
noncomputable def b0_stepped_rows : MS := (sSeq (sSet 7 (mOpF gCat (mCons (mSl (mRd 0) (mPt (mRd 6)) (mPt (mOpF gAdd (mCons (mRd 6) (mCons (mC (.int 2)) mNil))))) (mCons (mSl (mRd 1) (mPt (mRd 6)) (mPt (mOpF gAdd (mCons (mRd 6) (mCons (mC (.int 2)) mNil))))) mNil))))
    (sSeq (sSet 8 (mOpF gIx (mCons (mRd 2) (mCons (mOpF (ofLen 2 F_number_of) (mCons (mRd 7) (mCons (mRd 3) mNil))) mNil))))
    (sSeq (sDrop (mMeth 4 gExtend (mCons (mSl (mRd 8) mNoP (mPt (mC (.int 2)))) mNil)))
    (sDrop (mMeth 5 gExtend (mCons (mSl (mRd 8) (mPt (mC (.int 2))) mNoP) mNil))))))
noncomputable def l0_stepped_rows : MS := sFor (setN 6) (mRng3 (mCons (mC (.int 0)) (mCons (mOpF gLen (mCons (mRd 0) mNil)) (mCons (mC (.int 2)) mNil)))) b0_stepped_rows
noncomputable def m_stepped_rows : MS := (sSeq (sSet 4 (mOpF gLst' mNil))
    (sSeq (sSet 5 (mOpF gLst' mNil))
    (sSeq l0_stepped_rows
    (sRet (mOpF gLst' (mCons (mOpF gTuple (mCons (mRd 4) mNil)) (mCons (mOpF gTuple (mCons (mRd 5) mNil)) mNil)))))))
noncomputable def F_stepped_rows : List Slot → Option Slot := runF 4 9 m_stepped_rows
noncomputable def b0_stepped : MS := (sDrop (mMeth 6 gExtend (mCons (mOpF (ofLen 4 F_stepped_rows) (mCons (mOpF gIx (mCons (mRd 5) (mCons (mRd 7) mNil))) (mCons (mOpF gIx (mCons (mRd 5) (mCons (mOpF gAdd (mCons (mRd 7) (mCons (mC (.int 1)) mNil))) mNil))) (mCons (mRd 1) (mCons (mRd 2) mNil))))) mNil)))
noncomputable def l0_stepped : MS := sFor (setN 7) (mRng3 (mCons (mC (.int 0)) (mCons (mOpF gLen (mCons (mRd 5) mNil)) (mCons (mC (.int 2)) mNil)))) b0_stepped
noncomputable def m_stepped : MS := (sSeq (sSet 4 (mOpF gMod (mCons (mRd 3) (mCons (mC (.int 2)) mNil))))
    (sSeq (sSet 5 (mOpF (ofLen 3 F_moved) (mCons (mRd 0) (mCons (mOpF gNeg (mCons (mRd 4) mNil)) (mCons (mOpF gNeg (mCons (mRd 4) mNil)) mNil)))))
    (sSeq (sSet 6 (mOpF gLst' mNil))
    (sSeq l0_stepped
    (sRet (mOpF (ofLen 3 F_moved) (mCons (mOpF gTuple (mCons (mRd 6) mNil)) (mCons (mRd 4) (mCons (mRd 4) mNil)))))))))
noncomputable def F_stepped : List Slot → Option Slot := runF 4 8 m_stepped
noncomputable def c0_outcomes_of : M R := mComp [2] (setN 2) (mItS (mFr 0)) mYes (mOpF (ofLen 2 F_block_of) (mCons (mRd 2) (mCons (mRd 1) mNil)))
noncomputable def m_outcomes_of : MS := (sRet c0_outcomes_of)
noncomputable def F_outcomes_of : List Slot → Option Slot := runF 2 3 m_outcomes_of
noncomputable def b0_back : MS := (sSet 6 (mOpF (ofLen 4 F_stepped) (mCons (mRd 6) (mCons (mRd 5) (mCons (mRd 2) (mCons (mOpF gSub (mCons (mOpF gSub (mCons (mRd 3) (mCons (mC (.int 1)) mNil))) (mCons (mRd 7) mNil))) mNil))))))
noncomputable def l0_back : MS := sFor (setN 7) (mRng1 (mCons (mRd 4) mNil)) b0_back
noncomputable def m_back : MS := (sSeq (sSet 5 (mOpF (ofLen 2 F_outcomes_of) (mCons (mOpF (ofLen 1 F_rule_back) (mCons (mRd 1) mNil)) (mCons (mRd 2) mNil))))
    (sSeq (sSet 6 (mVal 0))
    (sSeq l0_back
    (sRet (mVal 6)))))
noncomputable def F_back : List Slot → Option Slot := runF 5 8 m_back
noncomputable def c0_weight_of : M R := mComp [2] (setN 2) (mItS (mFr 0)) mYes (mOpF gIx (mCons (mRd 1) (mCons (mRd 2) mNil)))
noncomputable def m_weight_of : MS := (sRet (mOpF gSum (mCons c0_weight_of mNil)))
noncomputable def F_weight_of : List Slot → Option Slot := runF 2 3 m_weight_of
noncomputable def b0_keeps : MS := (sSeq (sSet 5 (mOpF (ofLen 2 F_weight_of) (mCons (mOpF (ofLen 2 F_block_of) (mCons (mRd 3) (mCons (mRd 1) mNil))) (mCons (mRd 2) mNil))))
    (sSeq (sSet 6 (mOpF (ofLen 2 F_weight_of) (mCons (mOpF (ofLen 2 F_block_of) (mCons (mRd 4) (mCons (mRd 1) mNil))) (mCons (mRd 2) mNil))))
    (sIf (mTru (mOpF (gEq true) (mCons (mRd 5) (mCons (mRd 6) mNil)))) (sRet (mC (.bl false))) sNil)))
noncomputable def l0_keeps : MS := sFor (setT 2 (gsCons (setN 3) (gsCons (setN 4) gsNil))) (mEnum (mCons (mFr 0) mNil)) b0_keeps
noncomputable def m_keeps : MS := (sSeq l0_keeps
    (sRet (mC (.bl true))))
noncomputable def F_keeps : List Slot → Option Slot := runF 3 7 m_keeps
noncomputable def mX_lines_of : MX := (xSeq (xO (sSet 1 (mOpF (gSplit (Str.ofString "\n")) (mCons (mRd 0) mNil))))
    (xSeq (xIf (mTru (mOpF (gEq true) (mCons (mOpF gIx (mCons (mRd 1) (mCons (mOpF gNeg (mCons (mC (.int 1)) mNil)) mNil))) (mCons (mC (.str (Str.ofString ""))) mNil)))) (xRaise "BadNote") (xO sNil))
    (xO (sRet (mSl (mRd 1) mNoP (mPt (mOpF gNeg (mCons (mC (.int 1)) mNil))))))))
noncomputable def FX_lines_of : List Slot → Option ResX := runX 1 2 mX_lines_of
noncomputable def F_numbers_by_word : List Slot → Option Slot := gWords
noncomputable def xb0_numbers_read : MX := (xSeq (xIf (mTru (mOpF gNotD (mCons (mRd 4) (mCons (mRd 2) mNil)))) (xRaise "BadNote") (xO sNil))
    (xO (sDrop (mMeth 3 gAppend (mCons (mOpF gIxD (mCons (mRd 2) (mCons (mRd 4) mNil))) mNil)))))
noncomputable def xl0_numbers_read : MX := xFor (setN 4) (mItA (mFr 0)) xb0_numbers_read
noncomputable def mX_numbers_read : MX := (xSeq (xO (sSet 2 (mOpF (ofLen 1 F_numbers_by_word) (mCons (mRd 1) mNil))))
    (xSeq (xO (sSet 3 (mOpF gLst' mNil)))
    (xSeq xl0_numbers_read
    (xO (sRet (mVal 3))))))
noncomputable def FX_numbers_read : List Slot → Option ResX := runX 2 5 mX_numbers_read
end Sh
set_option maxHeartbeats 4000000
local macro_rules | `(tactic| walk_at "mi") => `(tactic| simp -implicitDefEqProofs [Mi.runF, Mi.sSeq, Mi.sIf, Mi.mTru, Mi.mOpF, Mi.mCons, Mi.mNil, Mi.mRd, Mi.mVal, Mi.mFr, Mi.fzS, Mi.drs, Mi.dr, Mi.rdS, Mi.gLen, Mi.gLt, Mi.gGt, Mi.gGe, Mi.gI, Mi.yes2, Mi.fresh, Mi.sRet, Mi.sNil, Mi.mC, Mi.gIx, Mi.gAdd, Mi.gSub, Mi.gMul, Mi.gDiv, Mi.gMod, Mi.gPow, Mi.cMul, Mi.cDiv, Mi.cMod, Mi.cPow, Mi.gNeg,
  Mi.sSet, Mi.sDrop, Mi.setN, Mi.gsNil, Mi.gsCons, Mi.setT, Mi.imm, Mi.sAsg, Mi.setIx, Mi.ownAt, Mi.mMeth, Mi.gAppend, Mi.gPopAt, Mi.gRev, Mi.vals, Mi.gTup', Mi.gLst', Mi.gList, Mi.gTuple, Mi.gInt, Mi.isT, Mi.gSum, Mi.intsOf, Mi.mNot, Mi.mAnd, Mi.mOr, Mi.mBl, Mi.mIf, Mi.ofLen, Mi.mRng1, Mi.mItS, Mi.sFor, Mi.mSl, Mi.gSl, Mi.mNoP, Mi.mPt, Mi.sNever, Mi.gInsert, Mi.gOne, Mi.gSet, Mi.xO, Mi.xSeq, Mi.xIf, Mi.xRaise, Mi.xFor, Mi.runX, Mi.tbC, Mi.tb0, Mi.isNo, Mi.mChn, Mi.intR, Mi.gCatL, Mi.mPick, Mi.newR, Mi.gStrI, Mi.gCatS, Mi.gIxS, Mi.gJoin, Mi.gSplit, Mi.mItA, Mi.gNotT, Mi.gNotD, Mi.gIxD, Mi.gGetT, Mi.mCallX, Mi.mOpX, Mi.mItX, Mi.xSet, Mi.xTryR, Mi.mRef, Mi.sTryB, Mi.gLenS, Mi.gSlS, Mi.mSlS, Mi.mStrs, Mi.big, Mi.gEq, Mi.okP, Mi.toS, Mi.toP, PySem.PyData.canLay0, PySem.PyData.depth, PySem.PyData.eqv, PySem.PyData.canLayAll0, PySem.PyData.depthAll, PySem.PyData.eqvAll, Mi.toPs, *])
local macro_rules | `(tactic| walk_at "mif") => `(tactic| simp -implicitDefEqProofs [Mi.forL, Mi.runF, Mi.sSeq, Mi.sIf, Mi.mTru, Mi.mOpF, Mi.mCons, Mi.mNil, Mi.mRd, Mi.mVal, Mi.mFr, Mi.fzS, Mi.drs, Mi.dr, Mi.rdS, Mi.gLen, Mi.gLt, Mi.gGt, Mi.gGe, Mi.gI, Mi.yes2, Mi.fresh, Mi.sRet, Mi.sNil, Mi.mC, Mi.gIx, Mi.gAdd, Mi.gSub, Mi.gMul, Mi.gDiv, Mi.gMod, Mi.gPow, Mi.cMul, Mi.cDiv, Mi.cMod, Mi.cPow, Mi.gNeg,
  Mi.sSet, Mi.sDrop, Mi.setN, Mi.gsNil, Mi.gsCons, Mi.setT, Mi.imm, Mi.sAsg, Mi.setIx, Mi.ownAt, Mi.mMeth, Mi.gAppend, Mi.gPopAt, Mi.gRev, Mi.vals, Mi.gTup', Mi.gLst', Mi.gList, Mi.gTuple, Mi.gInt, Mi.isT, Mi.gSum, Mi.intsOf, Mi.mNot, Mi.mAnd, Mi.mOr, Mi.mBl, Mi.mIf, Mi.ofLen, Mi.mRng1, Mi.mItS, Mi.sFor, Mi.mSl, Mi.gSl, Mi.mNoP, Mi.mPt, Mi.sNever, Mi.gInsert, Mi.gOne, Mi.gSet, Mi.xO, Mi.xSeq, Mi.xIf, Mi.xRaise, Mi.xFor, Mi.runX, Mi.tbC, Mi.tb0, Mi.isNo, Mi.mChn, Mi.intR, Mi.gCatL, Mi.mPick, Mi.newR, Mi.gStrI, Mi.gCatS, Mi.gIxS, Mi.gJoin, Mi.gSplit, Mi.mItA, Mi.gNotT, Mi.gNotD, Mi.gIxD, Mi.gGetT, Mi.mCallX, Mi.mOpX, Mi.mItX, Mi.xSet, Mi.xTryR, Mi.mRef, Mi.sTryB, Mi.gLenS, Mi.gSlS, Mi.mSlS, Mi.mStrs, Mi.big, Mi.gEq, Mi.okP, Mi.toS, Mi.toP, PySem.PyData.canLay0, PySem.PyData.depth, PySem.PyData.eqv, PySem.PyData.canLayAll0, PySem.PyData.depthAll, PySem.PyData.eqvAll, Mi.toPs, *])
local macro_rules | `(tactic| walk_at "mic") => `(tactic| simp -implicitDefEqProofs [Mi.mComp, Mi.compL, Mi.maskE, Mi.unmask, Mi.mYes, Mi.plainAt, Mi.noOwn, Mi.forL, Mi.runF, Mi.sSeq, Mi.sIf, Mi.mTru, Mi.mOpF, Mi.mCons, Mi.mNil, Mi.mRd, Mi.mVal, Mi.mFr, Mi.fzS, Mi.drs, Mi.dr, Mi.rdS, Mi.gLen, Mi.gLt, Mi.gGt, Mi.gGe, Mi.gI, Mi.yes2, Mi.fresh, Mi.sRet, Mi.sNil, Mi.mC, Mi.gIx, Mi.gAdd, Mi.gSub, Mi.gMul, Mi.gDiv, Mi.gMod, Mi.gPow, Mi.cMul, Mi.cDiv, Mi.cMod, Mi.cPow, Mi.gNeg,
  Mi.sSet, Mi.sDrop, Mi.setN, Mi.gsNil, Mi.gsCons, Mi.setT, Mi.imm, Mi.sAsg, Mi.setIx, Mi.ownAt, Mi.mMeth, Mi.gAppend, Mi.gPopAt, Mi.gRev, Mi.vals, Mi.gTup', Mi.gLst', Mi.gList, Mi.gTuple, Mi.gInt, Mi.isT, Mi.gSum, Mi.intsOf, Mi.mNot, Mi.mAnd, Mi.mOr, Mi.mBl, Mi.mIf, Mi.ofLen, Mi.mRng1, Mi.mItS, Mi.sFor, Mi.mSl, Mi.gSl, Mi.mNoP, Mi.mPt, Mi.sNever, Mi.gInsert, Mi.gOne, Mi.gSet, Mi.xO, Mi.xSeq, Mi.xIf, Mi.xRaise, Mi.xFor, Mi.runX, Mi.tbC, Mi.tb0, Mi.isNo, Mi.mChn, Mi.intR, Mi.gCatL, Mi.mPick, Mi.newR, Mi.gStrI, Mi.gCatS, Mi.gIxS, Mi.gJoin, Mi.gSplit, Mi.mItA, Mi.gNotT, Mi.gNotD, Mi.gIxD, Mi.gGetT, Mi.mCallX, Mi.mOpX, Mi.mItX, Mi.xSet, Mi.xTryR, Mi.mRef, Mi.sTryB, Mi.gLenS, Mi.gSlS, Mi.mSlS, Mi.mStrs, Mi.big, Mi.gEq, Mi.okP, Mi.toS, Mi.toP, PySem.PyData.canLay0, PySem.PyData.depth, PySem.PyData.eqv, PySem.PyData.canLayAll0, PySem.PyData.depthAll, PySem.PyData.eqvAll, Mi.toPs, *])
namespace Sh
open PySem L2 Mi
theorem cell_at (ns : List Int) (k : Nat) : F__law_cell_at [.fz (ns.map D.int), .val (.int k)] = some (.val (.int (cell ns k))) := by
  unfold F__law_cell_at m__law_cell_at cell
  by_cases h : k < ns.length
  · have e := atI_ints h
    walk_at "mi"
  · walk_at "mi"
noncomputable def idn (n : Nat) : List Int := (List.range n).map fun (i : Nat) => (i : Int)
noncomputable def RuleOf (n : Nat) (rs : List Int) : Prop := rs.Perm (idn n)
theorem RuleOf.len {n : Nat} {rs : List Int} (h : RuleOf n rs) : rs.length = n := by
  have := h.length_eq
  simpa [idn] using this
theorem RuleOf.bd {n : Nat} {rs : List Int} (h : RuleOf n rs) {r : Int} (hr : r ∈ rs) : 0 ≤ r ∧ r < n := by
  have := h.mem_iff.mp hr
  obtain ⟨i, hi, e⟩ := List.mem_map.mp this
  have := List.mem_range.mp hi
  omega
theorem swap_perm {l : List Int} {i j : Nat} (hi : i < l.length) (hj : j < l.length) : ((l.set i (l.getD j 0)).set j (l.getD i 0)).Perm l := by
  rw [List.getD_eq_getElem?_getD, List.getD_eq_getElem?_getD, List.getElem?_eq_getElem hi, List.getElem?_eq_getElem hj]
  simp only [Option.getD_some]
  rw [List.perm_iff_count]
  intro x
  rw [List.count_set (by simpa using hj), List.count_set hi, List.getElem_set]
  have hci : ∀ (k : Nat) (hk : k < l.length), l[k] = x → 0 < l.count x := fun k hk e => List.count_pos_iff.mpr (e ▸ List.getElem_mem hk)
  by_cases e : i = j
  · subst e
    simp only [if_true]
    by_cases h : l[i] = x
    · have := hci i hi h
      simp [h]; omega
    · simp [h]
  · rw [if_neg e]
    by_cases h1 : l[i] = x <;> by_cases h2 : l[j] = x
    · have := hci i hi h1
      simp [h1, h2]; omega
    · have := hci i hi h1
      simp [h1, h2]; omega
    · have := hci j hj h2
      simp [h1, h2]
    · simp [h1, h2]
noncomputable def nmd (kind number : Int) : Int := match F__law_named [.val (.int kind), .val (.int number)] with
  | some (.val (.int r)) => r
  | _ => 0
theorem named_all : (List.range 3).all (fun k => (List.range 16).all fun n => match F__law_named [.val (.int (k : Nat)), .val (.int (n : Nat))] with
  | some (.val (.int _)) => true
  | _ => false) = true := by decide +kernel
theorem named_perm : (List.range 3).all (fun k => decide (((List.range 16).map fun (n : Nat) => nmd (k : Nat) (n : Nat)).isPerm (idn 16))) = true := by decide +kernel
theorem named_eq {k n : Int} (h1 : 0 ≤ k) (h2 : k < 3) (h3 : 0 ≤ n) (h4 : n < 16) : F__law_named [.val (.int k), .val (.int n)] = some (.val (.int (nmd k n))) := by
  have h := List.all_eq_true.mp named_all k.toNat (List.mem_range.mpr (by omega))
  have h := List.all_eq_true.mp h n.toNat (List.mem_range.mpr (by omega))
  rw [Int.toNat_of_nonneg h1, Int.toNat_of_nonneg h3] at h
  unfold nmd
  generalize F__law_named [.val (.int k), .val (.int n)] = q at h ⊢
  match q, h with
  | some (.val (.int r)), _ => rfl
theorem named_rule {k : Int} (h1 : 0 ≤ k) (h2 : k < 3) : RuleOf 16 ((List.range 16).map fun (n : Nat) => nmd k (n : Nat)) := by
  have h := List.all_eq_true.mp named_perm k.toNat (List.mem_range.mpr (by omega))
  rw [Int.toNat_of_nonneg h1] at h
  exact List.isPerm_iff.mp (by simpa using h)
theorem idn_map (n : Nat) : ((rangeD 0 n).map fun s => match s with
  | .val d => d
  | _ => .non) = (idn n).map D.int := by
  unfold rangeD idn
  rw [List.map_map, List.map_map]
  apply List.map_congr_left
  intro i _
  simp
theorem idn_len (n : Nat) : (idn n).length = n := by simp [idn]
theorem rest_eq {c x : Int} {n : Nat} (h : (c = 2 ∧ n = 16) ∨ (c = 3 ∧ n = 81)) : c1__law_rule_by [some (.val (.int x)), some (.val (.int c)), none, none, none, none, none] =
    some (.of (.own ((idn n).map D.int)), [some (.val (.int x)), some (.val (.int c)), none, none, none, none, none]) := by
  unfold c1__law_rule_by
  rw [← idn_map]
  refine mComp_setN _ (its := rangeD 0 n) ?_ (by simp) rfl (by rw [rangeD_len]; rcases h with ⟨_, rfl⟩ | ⟨_, rfl⟩ <;> decide) (fun s hs => ?_) (fun s hs => ?_)
  · rcases h with ⟨rfl, rfl⟩ | ⟨rfl, rfl⟩ <;> rfl
  · obtain ⟨i, _, rfl⟩ := rangeD_mem hs; rfl
  · obtain ⟨i, _, rfl⟩ := rangeD_mem hs; rfl
theorem getD_eq {l : List Int} {i : Nat} (h : i < l.length) : l.getD i 0 = l[i] := by rw [List.getD_eq_getElem?_getD, List.getElem?_eq_getElem h]; rfl
theorem atI_int {ns : List Int} {k : Int} (h0 : 0 ≤ k) (h : k < ns.length) : atI (ns.map D.int) k = some (.int (ns.getD k.toNat 0)) := by
  obtain ⟨j, rfl⟩ := Int.eq_ofNat_of_zero_le h0
  exact atI_ints (by omega)
theorem ixN_int {n : Nat} {k : Int} (h0 : 0 ≤ k) (h : k < n) : ixN n k = some k.toNat := by
  unfold ixN
  rw [if_pos h0, if_pos h]
theorem c0_eq {x : Int} : c0__law_rule_by [some (.val (.int x)), some (.val (.int 2)), some (.own ((idn 16).map D.int)), none, none, none, none] =
    some (.of (.own (((List.range 16).map fun (n : Nat) => nmd (x / 5 % 3) (n : Nat)).map D.int)), [some (.val (.int x)), some (.val (.int 2)), some (.fz ((idn 16).map D.int)), none, none, none, none]) := by
  unfold c0__law_rule_by
  have e : (((idn 16).map D.int).map Slot.val).map (fun s => match s with
      | .val (.int n) => D.int (nmd (x / 5 % 3) n)
      | _ => .non) = ((List.range 16).map fun (n : Nat) => nmd (x / 5 % 3) (n : Nat)).map D.int := by
    unfold idn
    rw [List.map_map, List.map_map, List.map_map, List.map_map]
    rfl
  rw [← e]
  refine mComp_setN _ (its := ((idn 16).map D.int).map Slot.val) rfl (by simp) rfl (by simp [idn, big]) (fun s hs => ?_) (fun s hs => ?_)
  · obtain ⟨d, _, rfl⟩ := List.mem_map.mp hs; rfl
  · obtain ⟨d, hd, rfl⟩ := List.mem_map.mp hs
    obtain ⟨n, hn, rfl⟩ := List.mem_map.mp hd
    obtain ⟨i, hi, rfl⟩ := List.mem_map.mp hn
    have hi := List.mem_range.mp hi
    have q := named_eq (k := x / 5 % 3) (n := (i : Int)) (by omega) (by omega) (by omega) (by omega)
    walk_at "mi"
theorem swaps {x c : Int} {n : Nat} {t : Slot} (hn : 0 < n) (hn2 : n < 1000) (rs : List Int) (hr : RuleOf n rs) : ∃ ρ', l1__law_rule_by [some (.val (.int x)), some (.val (.int c)), some t, some (.own (rs.map D.int)), none, none, none] = some (.nx ρ') ∧
    ∃ x' rs' a b k, RuleOf n rs' ∧ ρ' = [some (.val (.int x')), some (.val (.int c)), some t, some (.own (rs'.map D.int)), k, a, b] := by
  unfold l1__law_rule_by
  have h1 : mRng1 (mCons (mC (.int 3)) mNil) [some (.val (.int x)), some (.val (.int c)), some t, some (.own (rs.map D.int)), none, none, none] = some (rangeD 0 3, [some (.val (.int x)), some (.val (.int c)), some t, some (.own (rs.map D.int)), none, none, none]) := rfl
  have h2 := forL_ex (tg := setN 4) (body := b1__law_rule_by) (its := rangeD 0 3) (fun _ ρ => ∃ x' rs' a b k, RuleOf n rs' ∧ ρ = [some (.val (.int x')), some (.val (.int c)), some t, some (.own (rs'.map D.int)), k, a, b])
    (ρ := [some (.val (.int x)), some (.val (.int c)), some t, some (.own (rs.map D.int)), none, none, none]) 0 ⟨x, rs, none, none, none, hr, rfl⟩ (fun i s ρ hi hp => ?_)
  · obtain ⟨ρ', e, q⟩ := h2
    refine ⟨ρ', ?_, q⟩
    show ((mRng1 (mCons (mC (.int 3)) mNil) _).bind _) = _
    rw [h1]
    exact e
  · obtain ⟨x1, rs1, a, b, k, hr1, rfl⟩ := hp
    obtain ⟨_, rfl⟩ := rangeD_get hi
    have hl := hr1.len
    have b1 : 0 ≤ (x1 * 48271 + 7) % 2147483647 / 5 % (n : Int) ∧ (x1 * 48271 + 7) % 2147483647 / 5 % (n : Int) < n := ⟨Int.emod_nonneg _ (by omega), Int.emod_lt_of_pos _ (by omega)⟩
    have b2 : 0 ≤ (x1 * 48271 + 7) % 2147483647 / 11 / (n : Int) % (n : Int) ∧ (x1 * 48271 + 7) % 2147483647 / 11 / (n : Int) % (n : Int) < n := ⟨Int.emod_nonneg _ (by omega), Int.emod_lt_of_pos _ (by omega)⟩
    generalize hA : (x1 * 48271 + 7) % 2147483647 / 5 % (n : Int) = A at b1
    generalize hB : (x1 * 48271 + 7) % 2147483647 / 11 / (n : Int) % (n : Int) = Bb at b2
    have e1 := atI_int (ns := rs1) b1.1 (by omega)
    have e2 := atI_int (ns := rs1) b2.1 (by omega)
    have i1 := ixN_int (n := n) b1.1 b1.2
    have i2 := ixN_int (n := n) b2.1 b2.2
    refine ⟨_, _, rfl, ?_, ⟨(x1 * 48271 + 7) % 2147483647, (rs1.set A.toNat (rs1.getD Bb.toNat 0)).set Bb.toNat (rs1.getD A.toNat 0), some (.val (.int A)), some (.val (.int Bb)), some (.val (.int (0 + (i : Int)))), (swap_perm (by omega) (by omega)).trans hr1, rfl⟩⟩
    unfold b1__law_rule_by
    simp only [List.map_set]
    have z1 : (0 : Int) < n := by omega
    have z2 : (n : Int) < 1073741824 := by omega
    walk_at "mi"
end Sh
namespace Sh
open PySem L2 Mi
theorem erase_map : ∀ (l : List Int) (i : Nat), (l.map D.int).eraseIdx i = (l.eraseIdx i).map D.int
  | [], _ => rfl
  | _ :: _, 0 => rfl
  | a :: r, i + 1 => by
    show D.int a :: (r.map D.int).eraseIdx i = _
    rw [erase_map r i]; rfl
theorem erase_perm : ∀ (l : List Int) (i : Nat) (h : i < l.length), (l[i] :: l.eraseIdx i).Perm l
  | _ :: _, 0, _ => List.Perm.refl _
  | a :: r, i + 1, h => by
    have h' : i < r.length := by simpa using h
    have ih := erase_perm r i h'
    exact (List.Perm.swap a r[i] (r.eraseIdx i)).trans (ih.cons a)
theorem draws {x c : Int} {n : Nat} (hn2 : n < 100) : ∃ ρ', l0__law_rule_by [some (.val (.int x)), some (.val (.int c)), some (.own ((idn n).map D.int)), some (.own []), none, none, none] = some (.nx ρ') ∧
    ∃ x' rs, RuleOf n rs ∧ ρ' = [some (.val (.int x')), some (.val (.int c)), some (.own []), some (.own (rs.map D.int)), none, none, none] := by
  unfold l0__law_rule_by
  have h2 := while_ex (c := mTru (mOpF gGt (mCons (mOpF gLen (mCons (mRd 2) mNil)) (mCons (mC (.int 0)) mNil)))) (body := b0__law_rule_by)
    (fun k ρ => ∃ x' rest out, rest.length = k ∧ out.length + rest.length = n ∧ RuleOf n (out ++ rest) ∧ ρ = [some (.val (.int x')), some (.val (.int c)), some (.own (rest.map D.int)), some (.own (out.map D.int)), none, none, none]) 100
    (ρ := [some (.val (.int x)), some (.val (.int c)), some (.own ((idn n).map D.int)), some (.own []), none, none, none]) n ⟨x, idn n, [], idn_len n, by simp [idn], List.Perm.refl _, rfl⟩ hn2 (fun k ρ hp => ?_)
  · obtain ⟨ρ', e, q⟩ := h2
    obtain ⟨x', rest, out, h1, h2, h3, rfl⟩ := q
    have : rest = [] := List.length_eq_zero_iff.mp h1
    subst this
    refine ⟨_, e, x', out, by simpa using h3, rfl⟩
  · obtain ⟨x1, rest, out, h1, h2, h3, rfl⟩ := hp
    refine ⟨[some (.val (.int x1)), some (.val (.int c)), some (.own (rest.map D.int)), some (.own (out.map D.int)), none, none, none], ?_, fun hk => ?_, fun hk => ?_⟩
    · subst h1
      walk_at "mi"
    · exact ⟨x1, rest, out, by omega, h2, h3, rfl⟩
    · subst h1
      have z1 : (0 : Int) < rest.length := by omega
      have b1 : 0 ≤ (x1 * 48271 + 29) % 2147483647 / 3 % (rest.length : Int) ∧ (x1 * 48271 + 29) % 2147483647 / 3 % (rest.length : Int) < rest.length := ⟨Int.emod_nonneg _ (by omega), Int.emod_lt_of_pos _ (by omega)⟩
      generalize hA : (x1 * 48271 + 29) % 2147483647 / 3 % (rest.length : Int) = A at b1
      have i1 := ixN_int (n := rest.length) b1.1 b1.2
      have hlt : A.toNat < rest.length := by omega
      have g1 : (rest.map D.int)[A.toNat]? = some (.int (rest.getD A.toNat 0)) := by rw [List.getElem?_map, List.getElem?_eq_getElem hlt, getD_eq hlt]; rfl
      refine ⟨[some (.val (.int ((x1 * 48271 + 29) % 2147483647))), some (.val (.int c)), some (.own ((rest.eraseIdx A.toNat).map D.int)), some (.own ((out ++ [rest.getD A.toNat 0]).map D.int)), none, none, none], ?_, ?_⟩
      · unfold b0__law_rule_by
        have z3 : rest.length < 1000000 := by omega
        have z4 : out.length < 1000000 := by omega
        have g2 : (rest.map D.int).eraseIdx A.toNat = (rest.eraseIdx A.toNat).map D.int := erase_map rest A.toNat
        simp only [List.getElem?_map] at g1
        walk_at "mi"
      · refine ⟨_, _, _, ?_, ?_, ?_, rfl⟩
        · rw [List.length_eraseIdx_of_lt hlt]
        · rw [List.length_eraseIdx_of_lt hlt, List.length_append]; simp; omega
        · refine List.Perm.trans ?_ h3
          rw [List.append_assoc]
          refine List.Perm.append_left out ?_
          rw [getD_eq hlt]
          exact erase_perm rest A.toNat hlt
theorem rule_by {x c : Int} {n : Nat} (h : (c = 2 ∧ n = 16) ∨ (c = 3 ∧ n = 81)) : ∃ rs, RuleOf n rs ∧ F__law_rule_by [.val (.int x), .val (.int c)] = some (.own (rs.map D.int)) := by
  have hr := rest_eq (x := x) h
  have hnn : 0 < n ∧ n < 100 := by rcases h with ⟨_, rfl⟩ | ⟨_, rfl⟩ <;> decide
  by_cases h0 : x % 5 = 0
  · rcases h with ⟨rfl, rfl⟩ | ⟨rfl, rfl⟩
    · refine ⟨_, named_rule (k := x / 5 % 3) (by omega) (by omega), ?_⟩
      have h2 := c0_eq (x := x)
      unfold F__law_rule_by m__law_rule_by
      walk_at "mi"
    · refine ⟨idn 81, List.Perm.refl _, ?_⟩
      unfold F__law_rule_by m__law_rule_by
      walk_at "mi"
  · by_cases h1 : x % 5 = 1
    · obtain ⟨ρ', e, x', rs', a, b, k, hr', rfl⟩ := swaps (x := x) (c := c) (t := .own ((idn n).map D.int)) hnn.1 (by omega) (idn n) (List.Perm.refl _)
      refine ⟨rs', hr', ?_⟩
      unfold F__law_rule_by m__law_rule_by
      walk_at "mi"
    · obtain ⟨ρ', e, x', rs', hr', rfl⟩ := draws (x := x) (c := c) (n := n) hnn.2
      refine ⟨rs', hr', ?_⟩
      unfold F__law_rule_by m__law_rule_by
      walk_at "mi"
end Sh
namespace Sh
open PySem L2 Mi
noncomputable def rwD (w : Nat) (g : Int → Int) : D := .tup ((Bd.row w g).map D.int)
noncomputable def bdL (w h : Nat) (f : Bd.Fn) : List D := (List.range h).map fun (y : Nat) => rwD w fun x => f x y
noncomputable def bdD (w h : Nat) (f : Bd.Fn) : D := .tup (bdL w h f)
noncomputable def vD (F : Int → D) : Slot → D := fun s => match s with
  | .val (.int x) => F x
  | _ => .non
end Sh
namespace Sh
open PySem L2 Mi
noncomputable def bkD (c n : Int) : D := .tup [.int (Bd.dg c n 0 0), .int (Bd.dg c n 0 1), .int (Bd.dg c n 1 0), .int (Bd.dg c n 1 1)]
noncomputable def outs (c : Int) (rs : List Int) : List D := rs.map (bkD c)
end Sh
namespace Sh
open PySem L2 Mi
noncomputable def up (c : Int) (r : Int → Int) (g0 g1 : Int → Int) (i : Int) : Int → Int := fun x => Bd.dg c (r (Bd.num c (g0 (x - x % 2)) (g0 (x - x % 2 + 1)) (g1 (x - x % 2)) (g1 (x - x % 2 + 1)))) i (x % 2)
end Sh
namespace Sh
open PySem L2 Mi
theorem row_by {x c : Int} {w h : Nat} {rows : Slot} {y a0 : Option Slot} (hc : Bd.Col c) (hw : w < 1000) : ∃ ρ', l0__law_board_by [some (.val (.int x)), some (.val (.int w)), some (.val (.int h)), some (.val (.int c)), some rows, y, some (.own []), a0] = some (.nx ρ') ∧
    ∃ (x' : Int) (r : List Int) (a : Option Slot), r.length = w ∧ (∀ v ∈ r, 0 ≤ v ∧ v < c) ∧ ρ' = [some (.val (.int x')), some (.val (.int w)), some (.val (.int h)), some (.val (.int c)), some rows, y, some (.own (r.map D.int)), a] := by
  unfold l0__law_board_by
  have lp := forL_ex (tg := setN 7) (body := b0__law_board_by) (its := rangeD 0 w)
    (fun i ρ => ∃ (x' : Int) (r : List Int) (a : Option Slot), r.length = i ∧ (∀ v ∈ r, 0 ≤ v ∧ v < c) ∧ ρ = [some (.val (.int x')), some (.val (.int w)), some (.val (.int h)), some (.val (.int c)), some rows, y, some (.own (r.map D.int)), a])
    (ρ := [some (.val (.int x)), some (.val (.int w)), some (.val (.int h)), some (.val (.int c)), some rows, y, some (.own []), a0]) 0 ⟨x, [], a0, rfl, by simp, rfl⟩ (fun i s ρ hs hp => ?_)
  · obtain ⟨ρ', e, q⟩ := lp
    rw [rangeD_len, Nat.zero_add] at q
    refine ⟨ρ', ?_, q⟩
    have h1 : (w : Int) < 4611686018427387904 := by omega
    have h2 : -4611686018427387904 ≤ (w : Int) := by omega
    walk_at "mi"
  · obtain ⟨x1, r, a, hl, hr, rfl⟩ := hp
    rw [Nat.zero_add] at hl
    obtain ⟨hin, rfl⟩ := rangeD_get hs
    have hp : 0 < c := by rcases hc with rfl | rfl <;> omega
    have hb : 0 ≤ (x1 * 48271 + 13) % 2147483647 / 7 % c ∧ (x1 * 48271 + 13) % 2147483647 / 7 % c < c := ⟨Int.emod_nonneg _ (by omega), Int.emod_lt_of_pos _ hp⟩
    have hc3 : c ≤ 3 := by rcases hc with rfl | rfl <;> omega
    refine ⟨_, _, rfl, ?_, (x1 * 48271 + 13) % 2147483647, r ++ [(x1 * 48271 + 13) % 2147483647 / 7 % c * (if decide (0 < (x1 * 48271 + 13) % 2147483647 / 77 % 3) then 1 else 0)], some (.val (.int i)), ?_, ?_, rfl⟩
    · unfold b0__law_board_by
      have z : i < 1000000 := by omega
      have m1 : -18446744073709551616 < (x1 * 48271 + 13) % 2147483647 / 7 % c := by omega
      have m2 : (x1 * 48271 + 13) % 2147483647 / 7 % c < 18446744073709551616 := by omega
      walk_at "mi"
    · rw [List.length_append, hl]; simp
    · intro v hv
      rcases List.mem_append.mp hv with z | z
      · exact hr v z
      · rw [List.mem_singleton.mp z]
        split
        · rw [Int.mul_one]; exact hb
        · rw [Int.mul_zero]; exact ⟨Int.le_refl _, hp⟩
theorem board_list {x c : Int} {w h : Nat} (hc : Bd.Col c) (hw : w < 1000) (hh : h < 1000) : ∃ b : List (List Int), b.length = h ∧ (∀ r ∈ b, r.length = w) ∧ (∀ r ∈ b, ∀ v ∈ r, 0 ≤ v ∧ v < c) ∧
    F__law_board_by [.val (.int x), .val (.int w), .val (.int h), .val (.int c)] = some (.val (.tup (b.map fun r => .tup (r.map D.int)))) := by
  have loop : ∃ ρ', l1__law_board_by [some (.val (.int x)), some (.val (.int w)), some (.val (.int h)), some (.val (.int c)), some (.own []), none, none, none] = some (.nx ρ') ∧
      ∃ (x' : Int) (b : List (List Int)) (a d e : Option Slot), b.length = h ∧ (∀ r ∈ b, r.length = w) ∧ (∀ r ∈ b, ∀ v ∈ r, 0 ≤ v ∧ v < c) ∧ ρ' = [some (.val (.int x')), some (.val (.int w)), some (.val (.int h)), some (.val (.int c)), some (.own (b.map fun r => .tup (r.map D.int))), a, d, e] := by
    unfold l1__law_board_by
    have lp := forL_ex (tg := setN 5) (body := b1__law_board_by) (its := rangeD 0 h)
      (fun i ρ => ∃ (x' : Int) (b : List (List Int)) (a d e : Option Slot), b.length = i ∧ (∀ r ∈ b, r.length = w) ∧ (∀ r ∈ b, ∀ v ∈ r, 0 ≤ v ∧ v < c) ∧ ρ = [some (.val (.int x')), some (.val (.int w)), some (.val (.int h)), some (.val (.int c)), some (.own (b.map fun r => .tup (r.map D.int))), a, d, e])
      (ρ := [some (.val (.int x)), some (.val (.int w)), some (.val (.int h)), some (.val (.int c)), some (.own []), none, none, none]) 0 ⟨x, [], none, none, none, rfl, by simp, by simp, rfl⟩ (fun i s ρ hs hp => ?_)
    · obtain ⟨ρ', e, q⟩ := lp
      rw [rangeD_len, Nat.zero_add] at q
      refine ⟨ρ', ?_, q⟩
      have h1 : (h : Int) < 4611686018427387904 := by omega
      have h2 : -4611686018427387904 ≤ (h : Int) := by omega
      walk_at "mi"
    · obtain ⟨x1, b, a, d, e, hl, hb1, hb2, rfl⟩ := hp
      rw [Nat.zero_add] at hl
      obtain ⟨hin, rfl⟩ := rangeD_get hs
      obtain ⟨ρ', q, x', r, a', hrl, hrb, rfl⟩ := row_by (x := x1) (h := h) (rows := .own (b.map fun r => .tup (r.map D.int))) (y := some (.val (.int i))) (a0 := e) hc hw
      refine ⟨_, _, rfl, ?_, x', b ++ [r], some (.val (.int i)), some (.own (r.map D.int)), a', ?_, ?_, ?_, rfl⟩
      · unfold b1__law_board_by
        have z : i < 1000000 := by omega
        walk_at "mi"
      · rw [List.length_append, hl]; simp
      · intro r' hr'
        rcases List.mem_append.mp hr' with z | z
        · exact hb1 r' z
        · have e : r' = r := by simpa using z
          rw [e]; exact hrl
      · intro r' hr'
        rcases List.mem_append.mp hr' with z | z
        · exact hb2 r' z
        · have e : r' = r := by simpa using z
          rw [e]; exact hrb
  obtain ⟨ρ', q, x', b, a, d, e, h1, h2, h3, rfl⟩ := loop
  refine ⟨b, h1, h2, h3, ?_⟩
  unfold F__law_board_by m__law_board_by
  walk_at "mi"
theorem bdD_of {w h : Nat} {b : List (List Int)} (h1 : b.length = h) (h2 : ∀ r ∈ b, r.length = w) : D.tup (b.map fun r => .tup (r.map D.int)) = bdD w h (Bd.pf w h b) := by
  unfold bdD bdL
  conv => lhs; rw [← Bd.pf_bd h1 h2]
  unfold Bd.bd
  rw [List.map_map]
  rfl
theorem board_by {x c : Int} {k l : Nat} (hc : Bd.Col c) (hw : 2 * k < 1000) (hh : 2 * l < 1000) : ∃ f : Bd.Fn, Bd.Per (2 * k : Nat) (2 * l : Nat) f ∧ Bd.InR c f ∧
    F__law_board_by [.val (.int x), .val (.int (2 * (k : Int))), .val (.int (2 * (l : Int))), .val (.int c)] = some (.val (bdD (2 * k) (2 * l) f)) := by
  obtain ⟨b, h1, h2, h3, e⟩ := board_list (x := x) (w := 2 * k) (h := 2 * l) hc hw hh
  rw [bdD_of h1 h2] at e
  have e1 : ((2 * k : Nat) : Int) = 2 * (k : Int) := by push_cast; rfl
  have e2 : ((2 * l : Nat) : Int) = 2 * (l : Int) := by push_cast; rfl
  rw [e1, e2] at e
  refine ⟨_, Bd.pf_per b, Bd.pf_rng (by rcases hc with rfl | rfl <;> omega) h3, e⟩
end Sh
namespace Sh
open PySem L2 Mi
noncomputable def same (w h : Nat) (f g : Bd.Fn) : Bool := decide (∀ y : Nat, y < h → ∀ x : Nat, x < w → f x y = g x y)
end Sh
namespace Sh
open PySem L2 Mi
noncomputable def wt (ws : List Int) : Int → Int := fun i => ws.getD i.toNat 0
noncomputable def kept (c : Int) (rs ws : List Int) (i : Nat) : Bool := decide (Bd.bw c (wt ws) i = Bd.bw c (wt ws) (rs.getD i 0))
end Sh
namespace Sh
open PySem L2 Mi
structure Sz where
  w : Nat
  h : Nat
  f : Bd.Fn
noncomputable def Sz.d (S : Sz) : D := bdD S.w S.h S.f
noncomputable def Sz.q (S : Sz) : Sz := ⟨S.h, S.w, Bd.tq S.h S.f⟩
noncomputable def Sz.m (S : Sz) : Sz := ⟨S.w, S.h, Bd.mi S.w S.f⟩
noncomputable def Sz.ok (S : Sz) : Prop := 0 < S.w ∧ 0 < S.h ∧ S.w < 1000 ∧ S.h < 1000
noncomputable def Sz.qs (S : Sz) : Nat → Sz
  | 0 => S
  | n + 1 => Sz.qs S.q n
noncomputable def Sz.t (S : Sz) (n : Nat) : Sz := if n < 4 then S.qs n else S.m.qs (n % 4)
end Sh
namespace Sh
open PySem L2 Mi
noncomputable def Blk (c m : Int) (S : Sz) : Prop := S.w = 2 ∧ S.h = 2 ∧ S.f 0 0 = Bd.dg c m 0 0 ∧ S.f 1 0 = Bd.dg c m 0 1 ∧ S.f 0 1 = Bd.dg c m 1 0 ∧ S.f 1 1 = Bd.dg c m 1 1
theorem RuleOf.nodup {n : Nat} {rs : List Int} (h : RuleOf n rs) : rs.Nodup := (List.Perm.nodup_iff h).mpr (Bd.idn_nodup n)
noncomputable def elsew (rs : List Int) (n : Nat) : Nat := ((Bd.idn n).filter fun i => decide (Bd.rl rs i ≠ i)).length
end Sh
namespace Tx
open PySem
noncomputable abbrev L (x : Str) : List Nat := x.cps.toList
noncomputable def mk (l : List Nat) : Str := ⟨l.toArray⟩
theorem ext {x y : Str} (h : L x = L y) : x = y := by
  obtain ⟨⟨a⟩⟩ := x
  obtain ⟨⟨b⟩⟩ := y
  have h : a = b := h
  rw [h]
theorem L_mk (l : List Nat) : L (mk l) = l := rfl
theorem mk_L (x : Str) : mk (L x) = x := ext rfl
theorem L_app (x y : Str) : L (x ++ y) = L x ++ L y := by
  show (x.cps ++ y.cps).toList = _
  exact Array.toList_append
theorem len_mk (l : List Nat) : (mk l).length = l.length := rfl
theorem len_L (x : Str) : x.length = (L x).length := rfl
noncomputable def J (c : Nat) : List (List Nat) → List Nat
  | [] => []
  | [x] => x
  | x :: y :: r => x ++ c :: J c (y :: r)
theorem L_join (c : Nat) : ∀ A : List Str, L (Str.join ⟨#[c]⟩ A) = J c (A.map L)
  | [] => rfl
  | [x] => rfl
  | x :: y :: r => by
    show L (x ++ ⟨#[c]⟩ ++ Str.join ⟨#[c]⟩ (y :: r)) = _
    rw [L_app, L_app, L_join c (y :: r), List.append_assoc]
    rfl
theorem cut_inj {c : Nat} : ∀ {a b t u : List Nat}, c ∉ a → c ∉ b → a ++ c :: t = b ++ c :: u → a = b ∧ t = u
  | [], [], t, u, _, _, h => by simpa using h
  | [], y :: b, t, u, _, hb, h => by simp at h; exact absurd (by rw [← h.1]; simp) hb
  | x :: a, [], t, u, ha, _, h => by simp at h; exact absurd (by rw [h.1]; simp) ha
  | x :: a, y :: b, t, u, ha, hb, h => by
    simp at h
    obtain ⟨e1, e2⟩ := cut_inj (a := a) (b := b) (fun z => ha (List.mem_cons_of_mem _ z)) (fun z => hb (List.mem_cons_of_mem _ z)) h.2
    exact ⟨by rw [h.1, e1], e2⟩
theorem J_inj {c : Nat} : ∀ {A B : List (List Nat)}, A ≠ [] → B ≠ [] → (∀ p ∈ A, c ∉ p) → (∀ p ∈ B, c ∉ p) → J c A = J c B → A = B
  | [], _, h, _, _, _, _ => absurd rfl h
  | _ :: _, [], _, h, _, _, _ => absurd rfl h
  | [x], [y], _, _, _, _, h => by
    have h : x = y := h
    rw [h]
  | [x], y :: z :: s, _, _, ha, _, h => by
    have h : x = y ++ c :: J c (z :: s) := h
    exact absurd (by rw [h]; simp) (ha x (by simp))
  | x :: w :: r, [y], _, _, _, hb, h => by
    have h : x ++ c :: J c (w :: r) = y := h
    exact absurd (by rw [← h]; simp) (hb y (by simp))
  | x :: w :: r, y :: z :: s, _, _, ha, hb, h => by
    have h : x ++ c :: J c (w :: r) = y ++ c :: J c (z :: s) := h
    obtain ⟨e1, e2⟩ := cut_inj (ha x (by simp)) (hb y (by simp)) h
    rw [e1, J_inj (A := w :: r) (B := z :: s) (by simp) (by simp) (fun p hp => ha p (List.mem_cons_of_mem _ hp)) (fun p hp => hb p (List.mem_cons_of_mem _ hp)) e2]
theorem split_ne (x y : Str) : Txt.split x y ≠ [] := by
  unfold Txt.split
  split
  · simp
  · split
    · simp
    · rw [StrLaws.partsBetween_eq]
      obtain ⟨p, r, e⟩ := StrLaws.partsFrom_ne x y.length 0 (Builtin.Str.occurrences x y 0 x.length (x.length + 1))
      rw [e]
      simp
theorem split_join {c : Nat} {A : List Str} (h : A ≠ []) (hf : ∀ p ∈ A, c ∉ L p) : Txt.split (Str.join ⟨#[c]⟩ A) ⟨#[c]⟩ = A := by
  have e := congrArg L (StrLaws.join_split (Str.join ⟨#[c]⟩ A) ⟨#[c]⟩)
  rw [L_join, L_join] at e
  have q := J_inj (c := c) (A := (Txt.split (Str.join ⟨#[c]⟩ A) ⟨#[c]⟩).map L) (B := A.map L) (by simpa using split_ne _ _) (by simpa using h) (fun p hp => by
    obtain ⟨x, hx, rfl⟩ := List.mem_map.mp hp
    exact StrLaws.split_free _ c x hx) (fun p hp => by
    obtain ⟨x, hx, rfl⟩ := List.mem_map.mp hp
    exact hf x hx) e
  have q2 := congrArg (List.map mk) q
  rw [List.map_map, List.map_map] at q2
  have id1 : (mk ∘ L) = id := funext fun x => mk_L x
  rw [id1, List.map_id, List.map_id] at q2
  exact q2
theorem L_cat : ∀ A : List Str, L (Str.join Str.empty A) = (A.map L).flatten
  | [] => rfl
  | [x] => by simp [Str.join]
  | x :: y :: r => by
    show L (x ++ Str.empty ++ Str.join Str.empty (y :: r)) = _
    rw [L_app, L_app, L_cat (y :: r)]
    simp [Str.empty]
theorem join_eq (sep : Str) (ys : List Str) : Txt.join sep ys = Str.join sep ys := StrLaws.glued_eq_join sep ys
noncomputable abbrev tS (i : Int) : Str := (toString i : Str)
noncomputable def figs (n : Nat) : Bool := (L (tS (n : Int))).all (fun ch => decide (48 ≤ ch) && decide (ch ≤ 57)) && decide ((L (tS (n : Int))).length ≤ 2)
theorem figs_all : ((List.range 100).all figs) = true := by decide +kernel
theorem fig {n : Nat} (h : n < 100) : (∀ ch ∈ L (tS (n : Int)), 48 ≤ ch ∧ ch ≤ 57) ∧ (L (tS (n : Int))).length ≤ 2 := by
  have := List.all_eq_true.mp figs_all n (List.mem_range.mpr h)
  unfold figs at this
  simp only [Bool.and_eq_true, List.all_eq_true, decide_eq_true_eq] at this
  exact this
end Tx
namespace Tx
open PySem Mi
theorem dat_app (k : Str) : ∀ (A B : List (Str × Int)), dat k (A ++ B) = (dat k A).orElse fun _ => dat k B
  | [], B => rfl
  | (y, n) :: A, B => by
    show dat k ((y, n) :: (A ++ B)) = _
    rw [dat_cons, dat_cons, dat_app k A B]
    split <;> rfl
theorem dat_words {i N : Nat} (h : i < N) (hN : N ≤ 81) : dat (tS (i : Int)) (wordsTab N) = some (i : Int) := by
  obtain ⟨d, rfl⟩ : ∃ d, N = i + 1 + d := ⟨N - (i + 1), by omega⟩
  clear h
  induction d with
  | zero =>
    have new := List.all_eq_true.mp words_new i (List.mem_range.mpr (by omega))
    have new : dat (tS (i : Int)) (wordsTab i) = none := Option.isNone_iff_eq_none.mp new
    show dat (tS (i : Int)) (wordsTab (i + 1)) = _
    rw [words_succ, dat_app, new, dat_cons, if_pos (decide_eq_true rfl)]
    rfl
  | succ d ih =>
    show dat (tS (i : Int)) (wordsTab (i + 1 + d + 1)) = _
    rw [words_succ, dat_app, ih (by omega)]
    rfl
noncomputable def dgt (i : Int) : Nat := 48 + i.toNat
noncomputable def rowStr (r : List Int) : Str := mk (r.map dgt)
noncomputable def Cells (r : List Int) : Prop := ∀ z ∈ r, 0 ≤ z ∧ z < 3
theorem dgt_le {i : Int} (h : 0 ≤ i) (h2 : i < 3) : 48 ≤ dgt i ∧ dgt i ≤ 50 := by unfold dgt; omega
noncomputable abbrev nl : Str := ⟨#[10]⟩
noncomputable def Small (rs : List Int) : Prop := ∀ r ∈ rs, 0 ≤ r ∧ r < 81
theorem tS_figs {i : Int} (h : 0 ≤ i) (h2 : i < 81) : (∀ ch ∈ L (tS i), 48 ≤ ch ∧ ch ≤ 57) ∧ (L (tS i)).length ≤ 2 := by
  obtain ⟨n, rfl⟩ := Int.eq_ofNat_of_zero_le h
  exact fig (by omega)
theorem J_mem {c ch : Nat} : ∀ {A : List (List Nat)}, ch ∈ J c A → ch = c ∨ ∃ p ∈ A, ch ∈ p
  | [], h => by simp [J] at h
  | [x], h => .inr ⟨x, by simp, h⟩
  | x :: y :: r, h => by
    have h : ch ∈ x ++ c :: J c (y :: r) := h
    rcases List.mem_append.mp h with h | h
    · exact .inr ⟨x, by simp, h⟩
    · rcases List.mem_cons.mp h with h | h
      · exact .inl h
      · rcases J_mem h with h | ⟨p, hp, h⟩
        · exact .inl h
        · exact .inr ⟨p, List.mem_cons_of_mem _ hp, h⟩
theorem J_len {c : Nat} : ∀ A : List (List Nat), (J c A).length ≤ (A.map List.length).sum + A.length
  | [] => by simp [J]
  | [x] => by simp [J]
  | x :: y :: r => by
    have := J_len (c := c) (y :: r)
    show (x ++ c :: J c (y :: r)).length ≤ _
    simp at this ⊢
    omega
noncomputable def headS (c : Int) : Str := Str.ofString "rule " ++ tS c
end Tx
namespace K17
open PySem L2 Mi Sh
open PySem.Spec
noncomputable def top (i : Nat) : Stmt := PySem.Challenge.pw_blockturn_k17_texts_refused.main.body.getD i (.Pass ⟨0, 0, 0, 0⟩)
noncomputable abbrev s_is_size : Stmt := top 12
theorem sc_is_size : FnScope ["number"] ["number"] (defScope s_is_size) := ⟨rfl, rfl, rfl, by decide +kernel, rfl, by decide +kernel, by decide +kernel⟩
theorem ok_is_size {P : Program} {w : World} {K : PySem.W.Frag} {mg : Str → Option Value} {base : Heap} (T : Names mg K) {t_LEAST_SIZE t_GREATEST_SIZE : Tok} (V_LEAST_SIZE : mg "LEAST_SIZE" = some (.int 2 t_LEAST_SIZE)) (V_GREATEST_SIZE : mg "GREATEST_SIZE" = some (.int 16 t_GREATEST_SIZE)) {f : Addr} {fd : FuncData} (F : Fun K "is_size" "is_size" s_is_size f fd) (hm : mg "is_size" = some (.ref f)) : Cal P w K mg base 1 "is_size" 1 F_is_size := by
  refine ⟨f, fd, _, fn_ok F sc_is_size fun cdv A outer s H E hr => ?_, F.binds (ps := ["number"]) (fun _ _ _ _ _ _ us hl => match us, hl with | [_], _ => rfl), F.kp, hm⟩
  have nd := sc_is_size.nd
  exact (qs_one (qs_ret (QB.q (qb_and (qb_val (q_chn (q_cst rfl V_LEAST_SIZE) (q_rd (pv 0)) (q_cst rfl V_GREATEST_SIZE))) (qb_one (qb_val ((q_eq hr.units) (q_mod (q_rd (pv 0)) q_int) q_int)))))))
noncomputable abbrev s_looked_board : Stmt := top 11
theorem sc_looked_board : FnScope ["board", "colours", "height", "width", "row"] ["board", "colours"] (defScope s_looked_board) := ⟨rfl, rfl, rfl, by decide +kernel, rfl, by decide +kernel, by decide +kernel⟩
theorem ok_looked_board {P : Program} {w : World} {K : PySem.W.Frag} {mg : Str → Option Value} {base : Heap} (T : Names mg K) {x_NoBoard : Addr} (O_NoBoard : OwnX K mg "NoBoard" x_NoBoard) (C_is_size : Cal P w K mg base 1 "is_size" 1 F_is_size) {f : Addr} {fd : FuncData} (F : Fun K "looked_board" "looked_board" s_looked_board f fd) (hm : mg "looked_board" = some (.ref f)) : CalZ P w K mg base 2 "looked_board" 2 FX_looked_board := by
  refine ⟨f, fd, _, fn_okZ F sc_looked_board fun cdv A outer s H E W hr hR hpo => ?_, F.binds (ps := ["board", "colours"]) (fun _ _ _ _ _ _ us hl => match us, hl with | [_, _], _ => rfl), F.kp, hm⟩
  have nd := sc_looked_board.nd
  exact (qxs_cons (qx_lift (qs_set (i := 2) nd rfl (by first | exact Or.inl rfl | exact Or.inr rfl) (q_callB call_len_seq sr_len rfl T.len PySem.boot_len (qa_cons (q_rd (pv 0)) qa_nil))))
    (qxs_cons (qx_if (qt_not (qt_val (q_callC C_is_size (hr.mono (by decide)) rfl (qa_cons (q_rd (pv 2)) qa_nil)))) (qxs_one (qx_raise hR rfl O_NoBoard rfl)) (qxs_lift qs_nil))
    (qxs_cons (qx_lift (qs_set (i := 3) nd rfl (by first | exact Or.inl rfl | exact Or.inr rfl) (q_callB call_len_seq sr_len rfl T.len PySem.boot_len (qa_cons (q_item (q_rd (pv 0)) q_int (fun _ _ => rfl)) qa_nil))))
    (qxs_cons (qx_if (qt_not (qt_val (q_callC C_is_size (hr.mono (by decide)) rfl (qa_cons (q_rd (pv 3)) qa_nil)))) (qxs_one (qx_raise hR rfl O_NoBoard rfl)) (qxs_lift qs_nil))
    (qxs_cons (qx_for hpo rfl (qi_seq (q_fr (pv 0))) (qg_name (pg_name (i := 4) nd rfl (by first | exact Or.inl rfl | exact Or.inr rfl))) (qxs_cons (qx_if ((qt_ne hr.units) (q_callB call_len_seq sr_len rfl T.len PySem.boot_len (qa_cons (q_rd (pv 4)) qa_nil)) (q_rd (pv 3))) (qxs_one (qx_raise hR rfl O_NoBoard rfl)) (qxs_lift qs_nil))
    (qxs_one (qx_if (qt_w (qw_or (qt_lt (q_callB (call_low rfl) sr_low rfl T.min PyProof.Rows.boot_min (qa_cons (q_fr (pv 4)) qa_nil)) q_int) (qw_or1 (qt_ge (q_callB (call_top rfl) sr_top rfl T.max PyProof.Rows.boot_max (qa_cons (q_fr (pv 4)) qa_nil)) (q_rd (pv 1)))))) (qxs_one (qx_raise hR rfl O_NoBoard rfl)) (qxs_lift qs_nil)))))
    (qxs_one (qx_lift (qs_ret (q_tup (qa_cons (q_rd (pv 3)) (qa_cons (q_rd (pv 2)) qa_nil)))))))))))
noncomputable abbrev s_lines_of : Stmt := top 17
theorem sc_lines_of : FnScope ["text", "lines"] ["text"] (defScope s_lines_of) := ⟨rfl, rfl, rfl, by decide +kernel, rfl, by decide +kernel, by decide +kernel⟩
theorem ok_lines_of {P : Program} {w : World} {K : PySem.W.Frag} {mg : Str → Option Value} {base : Heap} (T : Names mg K) {x_BadNote : Addr} (O_BadNote : OwnX K mg "BadNote" x_BadNote) {f : Addr} {fd : FuncData} (F : Fun K "lines_of" "lines_of" s_lines_of f fd) (hm : mg "lines_of" = some (.ref f)) : CalX P w K mg base 1 "lines_of" 1 FX_lines_of := by
  refine ⟨f, fd, _, fn_okY F sc_lines_of fun cdv A outer s H E W hr hR hpo hL => ?_, F.binds (ps := ["text"]) (fun _ _ _ _ _ _ us hl => match us, hl with | [_], _ => rfl), F.kp, hm⟩
  have nd := sc_lines_of.nd
  exact (qxs_cons (qx_lift (qs_set (i := 1) nd rfl (by first | exact Or.inl rfl | exact Or.inr rfl) (q_split (q_rd (pv 0)))))
    (qxs_cons (qx_if ((qt_ne hr.units) (q_item (q_rd (pv 1)) (q_neg q_int) (fun _ _ => rfl)) q_str) (qxs_one (qx_raise hR rfl O_BadNote rfl)) (qxs_lift qs_nil))
    (qxs_one (qx_lift (qs_ret (q_slice (q_rd (pv 1)) qo_none (qo_some (q_neg q_int))))))))
noncomputable abbrev s_numbers_by_word : Stmt := top 19
theorem sc_numbers_by_word : FnScope ["size", "result", "number"] ["size"] (defScope s_numbers_by_word) := ⟨rfl, rfl, rfl, by decide +kernel, rfl, by decide +kernel, by decide +kernel⟩
theorem ok_numbers_by_word {P : Program} {w : World} {K : PySem.W.Frag} {mg : Str → Option Value} {base : Heap} (T : Names mg K) {f : Addr} {fd : FuncData} (F : Fun K "numbers_by_word" "numbers_by_word" s_numbers_by_word f fd) (hm : mg "numbers_by_word" = some (.ref f)) : Cal P w K mg base 1 "numbers_by_word" 1 F_numbers_by_word := by
  refine ⟨f, fd, _, fn_words F sc_numbers_by_word rfl rfl fun cdv A outer s H E hr => ?_, F.binds (ps := ["size"]) (fun _ _ _ _ _ _ us hl => match us, hl with | [_], _ => rfl), F.kp, hm⟩
  have nd := sc_numbers_by_word.nd
  exact pss_words PassesOwn.never rfl nd rfl rfl rfl (by first | exact Or.inl rfl | exact Or.inr rfl) (by first | exact Or.inl rfl | exact Or.inr rfl) (by first | exact Or.inl rfl | exact Or.inr rfl) (pv 0) (pv 1) (pv 1) (pv 2) (pv 2) rfl T.range rfl T.str rfl rfl rfl (by first | exact Or.inl rfl | exact Or.inr rfl) (by first | exact Or.inl rfl | exact Or.inr rfl) rfl rfl rfl (by intro _; rfl) (by intro _; rfl)
noncomputable abbrev s_numbers_read : Stmt := top 18
theorem sc_numbers_read : FnScope ["words", "size", "known", "result", "word"] ["words", "size"] (defScope s_numbers_read) := ⟨rfl, rfl, rfl, by decide +kernel, rfl, by decide +kernel, by decide +kernel⟩
theorem ok_numbers_read {P : Program} {w : World} {K : PySem.W.Frag} {mg : Str → Option Value} {base : Heap} (T : Names mg K) {x_BadNote : Addr} (O_BadNote : OwnX K mg "BadNote" x_BadNote) (C_numbers_by_word : Cal P w K mg base 1 "numbers_by_word" 1 F_numbers_by_word) {f : Addr} {fd : FuncData} (F : Fun K "numbers_read" "numbers_read" s_numbers_read f fd) (hm : mg "numbers_read" = some (.ref f)) : CalX P w K mg base 2 "numbers_read" 2 FX_numbers_read := by
  refine ⟨f, fd, _, fn_okY F sc_numbers_read fun cdv A outer s H E W hr hR hpo hL => ?_, F.binds (ps := ["words", "size"]) (fun _ _ _ _ _ _ us hl => match us, hl with | [_, _], _ => rfl), F.kp, hm⟩
  have nd := sc_numbers_read.nd
  exact (qxs_cons (qx_lift (qs_set (i := 2) nd rfl (by first | exact Or.inl rfl | exact Or.inr rfl) (q_callC C_numbers_by_word (hr.mono (by decide)) rfl (qa_cons (q_rd (pv 1)) qa_nil))))
    (qxs_cons (qx_lift (qs_set (i := 3) nd rfl (by first | exact Or.inl rfl | exact Or.inr rfl) (q_lst qa_nil)))
    (qxs_cons (qx_for hpo rfl (qi_any (q_fr (pv 0))) (qg_name (pg_name (i := 4) nd rfl (by first | exact Or.inl rfl | exact Or.inr rfl))) (qxs_cons (qx_if (qt_notD (q_rd (pv 4)) (q_rd (pv 2))) (qxs_one (qx_raise hR rfl O_BadNote rfl)) (qxs_lift qs_nil))
    (qxs_one (qx_lift (qs_expr (q_meth PySem.F.plainAttrs_list PySem.F.slot_list_append PySem.F.type_list_append mt_append mr_append (pv 3) (qa_cons (q_ixD (q_rd (pv 2)) (q_rd (pv 4)) (fun _ _ => rfl)) qa_nil)))))))
    (qxs_one (qx_lift (qs_ret (q_val (pv 3))))))))
noncomputable abbrev s_read_board : Stmt := top 15
noncomputable def xc0_read_board : MXE := mCompX [4] (setN 4) (mItX (mCallX 1 FX_lines_of (mCons (mRd 0) mNil))) (mOpX gTuple (mCallX 2 FX_numbers_read (mCons (mRd 4) (mCons (mRd 1) mNil))))
noncomputable def mX_read_board : MX := (xSeq (xSet 2 (mOpX gTuple xc0_read_board))
    (xSeq (xTryR 2 FX_looked_board (mCons (mRd 2) (mCons (mRd 1) mNil)) ["NoBoard"] "BadNote")
    (xO sNever)))
noncomputable def FX_read_board : List Slot → Option ResX := runX 2 5 mX_read_board
theorem sc_read_board : FnScope ["text", "colours", "board", "e", "line"] ["text", "colours"] (defScope s_read_board) := ⟨rfl, rfl, rfl, by decide +kernel, rfl, by decide +kernel, by decide +kernel⟩
theorem ok_read_board {P : Program} {w : World} {K : PySem.W.Frag} {mg : Str → Option Value} {base : Heap} (T : Names mg K) {x_BadNote x_NoBoard : Addr} (O_BadNote : OwnX K mg "BadNote" x_BadNote) (O_NoBoard : OwnX K mg "NoBoard" x_NoBoard) (n_NoBoard_NoBoard : PySem.W.exmOne K (.ref x_NoBoard) (.ref x_NoBoard) = some true) (C_looked_board : CalZ P w K mg base 2 "looked_board" 2 FX_looked_board) (C_lines_of : CalX P w K mg base 1 "lines_of" 1 FX_lines_of) (C_numbers_read : CalX P w K mg base 2 "numbers_read" 2 FX_numbers_read) {f : Addr} {fd : FuncData} (F : Fun K "read_board" "read_board" s_read_board f fd) (hm : mg "read_board" = some (.ref f)) : CalX P w K mg base 3 "read_board" 2 FX_read_board := by
  refine ⟨f, fd, _, fn_okY F sc_read_board fun cdv A outer s H E W hr hR hpo hL => ?_, F.binds (ps := ["text", "colours"]) (fun _ _ _ _ _ _ us hl => match us, hl with | [_, _], _ => rfl), F.kp, hm⟩
  have nd := sc_read_board.nd
  exact (qxs_cons (qx_setE (i := 2) nd rfl (by first | exact Or.inl rfl | exact Or.inr rfl) (qe_callTy call_tuple_of sr_tuple rfl T.tuple PyProof.Rows.boot_tuple (qe_compX hL.s rfl rfl rfl (qix_seq (qe_callX hL.s C_lines_of (hr.mono (by decide)) rfl (qa_cons (q_rd (pv 0)) qa_nil))) ⟨compOk_of (by kernel_rfl), fun _ _ _ _ _ _ => (qg_name (pg_name (i := 4) nd rfl (by first | exact Or.inl rfl | exact Or.inr rfl))), fun _ _ _ _ _ _ LB => (qe_callTy call_tuple_of sr_tuple rfl T.tuple PyProof.Rows.boot_tuple (qe_callX LB C_numbers_read (hr.mono (by decide)) rfl (qa_cons (q_rd (pv 4)) (qa_cons (q_rd (pv 1)) qa_nil))))⟩)))
    (qxs_cons (qx_tryR (ie := 3) hL C_looked_board (hr.mono (by decide)) rfl (qa_cons (q_rd (pv 2)) (qa_cons (q_rd (pv 1)) qa_nil)) nd rfl rfl rfl rfl O_BadNote rfl (tr_cons O_NoBoard.bound (testx_one rfl O_NoBoard.bound n_NoBoard_NoBoard) O_NoBoard.exc tr_nil))
    (qxs_one (qx_lift qs_never))))
noncomputable abbrev s_looked : Stmt := top 7
theorem sc_looked : FnScope ["rule", "colours", "size", "number"] ["rule", "colours"] (defScope s_looked) := ⟨rfl, rfl, rfl, by decide +kernel, rfl, by decide +kernel, by decide +kernel⟩
theorem ok_looked {P : Program} {w : World} {K : PySem.W.Frag} {mg : Str → Option Value} {base : Heap} (T : Names mg K) {x_NotBack x_NoRule : Addr} (O_NotBack : OwnX K mg "NotBack" x_NotBack) (O_NoRule : OwnX K mg "NoRule" x_NoRule) {f : Addr} {fd : FuncData} (F : Fun K "looked" "looked" s_looked f fd) (hm : mg "looked" = some (.ref f)) : CalZ P w K mg base 1 "looked" 2 FX_looked := by
  refine ⟨f, fd, _, fn_okZ F sc_looked fun cdv A outer s H E W hr hR hpo => ?_, F.binds (ps := ["rule", "colours"]) (fun _ _ _ _ _ _ us hl => match us, hl with | [_, _], _ => rfl), F.kp, hm⟩
  have nd := sc_looked.nd
  exact (qxs_cons (qx_lift (qs_set (i := 2) nd rfl (by first | exact Or.inl rfl | exact Or.inr rfl) (q_pow (q_rd (pv 1)) q_int)))
    (qxs_cons (qx_if ((qt_ne hr.units) (q_callB call_len_seq sr_len rfl T.len PySem.boot_len (qa_cons (q_rd (pv 0)) qa_nil)) (q_rd (pv 2))) (qxs_one (qx_raise hR rfl O_NoRule rfl)) (qxs_lift qs_nil))
    (qxs_cons (qx_if (qt_w (qw_or (qt_lt (q_callB (call_low rfl) sr_low rfl T.min PyProof.Rows.boot_min (qa_cons (q_fr (pv 0)) qa_nil)) q_int) (qw_or1 (qt_ge (q_callB (call_top rfl) sr_top rfl T.max PyProof.Rows.boot_max (qa_cons (q_fr (pv 0)) qa_nil)) (q_rd (pv 2)))))) (qxs_one (qx_raise hR rfl O_NoRule rfl)) (qxs_lift qs_nil))
    (qxs_cons (qx_if ((qt_ne hr.units) (q_len_set rfl rfl T.len rfl T.set (qa_cons (q_fr (pv 0)) qa_nil)) (q_rd (pv 2))) (qxs_one (qx_raise hR rfl O_NotBack rfl)) (qxs_lift qs_nil))
    (qxs_one (qx_lift (qs_ret (q_callB call_len_seq sr_len rfl T.len PySem.boot_len (qa_cons (q_comp rfl (qi_range1 rfl T.range (qa_cons (q_rd (pv 2)) qa_nil)) ⟨compOk_of (by kernel_rfl), fun _ _ _ _ _ => (qg_name (pg_name (i := 3) nd rfl (by first | exact Or.inl rfl | exact Or.inr rfl))), fun _ _ _ _ _ => (qts_one ((qt_ne hr.units) (q_item (q_rd (pv 0)) (q_rd (pv 3)) (fun _ _ => rfl)) (q_rd (pv 3)))), fun _ _ _ _ _ => (q_rd (pv 3))⟩) qa_nil)))))))))
noncomputable abbrev s_read_rule : Stmt := top 16
noncomputable def mX_read_rule : MX := (xSeq (xSet 1 (mCallX 1 FX_lines_of (mCons (mRd 0) mNil)))
    (xSeq (xIf (mTru (mOpF (gEq true) (mCons (mOpF gLen (mCons (mRd 1) mNil)) (mCons (mC (.int 2)) mNil)))) (xRaise "BadNote") (xO sNil))
    (xSeq (xIf (mTru (mOpF (gNotT [("rule 2", 2), ("rule 3", 3)]) (mCons (mOpF gIx (mCons (mRd 1) (mCons (mC (.int 0)) mNil))) mNil))) (xRaise "BadNote") (xO sNil))
    (xSeq (xO (sSet 2 (mOpF (gGetT [("rule 2", 2), ("rule 3", 3)]) (mCons (mOpF gIx (mCons (mRd 1) (mCons (mC (.int 0)) mNil))) mNil))))
    (xSeq (xSet 3 (mCallX 2 FX_numbers_read (mCons (mOpF (gSplit (Str.ofString " ")) (mCons (mOpF gIx (mCons (mRd 1) (mCons (mC (.int 1)) mNil))) mNil)) (mCons (mOpF gPow (mCons (mRd 2) (mCons (mC (.int 4)) mNil))) mNil))))
    (xSeq (xTryR 2 FX_looked (mCons (mRd 3) (mCons (mRd 2) mNil)) ["NoRule", "NotBack"] "BadNote")
    (xO sNever)))))))
noncomputable def FX_read_rule : List Slot → Option ResX := runX 1 5 mX_read_rule
theorem sc_read_rule : FnScope ["text", "lines", "colours", "rule", "e"] ["text"] (defScope s_read_rule) := ⟨rfl, rfl, rfl, by decide +kernel, rfl, by decide +kernel, by decide +kernel⟩
theorem ok_read_rule {P : Program} {w : World} {K : PySem.W.Frag} {mg : Str → Option Value} {base : Heap} (T : Names mg K) {x_BadNote x_NotBack x_NoRule d_FIRST_LINES : Addr} (TI_FIRST_LINES : TabI K d_FIRST_LINES [("rule 2", 2), ("rule 3", 3)]) (G_FIRST_LINES : mg "FIRST_LINES" = some (.ref d_FIRST_LINES)) (O_BadNote : OwnX K mg "BadNote" x_BadNote) (O_NotBack : OwnX K mg "NotBack" x_NotBack) (O_NoRule : OwnX K mg "NoRule" x_NoRule) (n_NotBack_NoRule : PySem.W.exmOne K (.ref x_NotBack) (.ref x_NoRule) = some false) (n_NotBack_NotBack : PySem.W.exmOne K (.ref x_NotBack) (.ref x_NotBack) = some true) (n_NoRule_NoRule : PySem.W.exmOne K (.ref x_NoRule) (.ref x_NoRule) = some true) (n_NoRule_NotBack : PySem.W.exmOne K (.ref x_NoRule) (.ref x_NotBack) = some false) (C_looked : CalZ P w K mg base 1 "looked" 2 FX_looked) (C_numbers_read : CalX P w K mg base 2 "numbers_read" 2 FX_numbers_read) (C_lines_of : CalX P w K mg base 1 "lines_of" 1 FX_lines_of) {f : Addr} {fd : FuncData} (F : Fun K "read_rule" "read_rule" s_read_rule f fd) (hm : mg "read_rule" = some (.ref f)) : CalX P w K mg base 3 "read_rule" 1 FX_read_rule := by
  refine ⟨f, fd, _, fn_okY F sc_read_rule fun cdv A outer s H E W hr hR hpo hL => ?_, F.binds (ps := ["text"]) (fun _ _ _ _ _ _ us hl => match us, hl with | [_], _ => rfl), F.kp, hm⟩
  have nd := sc_read_rule.nd
  exact (qxs_cons (qx_setE (i := 1) nd rfl (by first | exact Or.inl rfl | exact Or.inr rfl) (qe_callX hL.s C_lines_of (hr.mono (by decide)) rfl (qa_cons (q_rd (pv 0)) qa_nil)))
    (qxs_cons (qx_if ((qt_ne hr.units) (q_callB call_len_seq sr_len rfl T.len PySem.boot_len (qa_cons (q_rd (pv 1)) qa_nil)) q_int) (qxs_one (qx_raise hR rfl O_BadNote rfl)) (qxs_lift qs_nil))
    (qxs_cons (qx_if (qt_notinT TI_FIRST_LINES rfl G_FIRST_LINES (q_item (q_rd (pv 1)) q_int (fun _ _ => rfl))) (qxs_one (qx_raise hR rfl O_BadNote rfl)) (qxs_lift qs_nil))
    (qxs_cons (qx_lift (qs_set (i := 2) nd rfl (by first | exact Or.inl rfl | exact Or.inr rfl) (q_getT TI_FIRST_LINES rfl G_FIRST_LINES (q_item (q_rd (pv 1)) q_int (fun _ _ => rfl)) (fun _ _ => rfl))))
    (qxs_cons (qx_setE (i := 3) nd rfl (by first | exact Or.inl rfl | exact Or.inr rfl) (qe_callX hL.s C_numbers_read (hr.mono (by decide)) rfl (qa_cons (q_split (q_item (q_rd (pv 1)) q_int (fun _ _ => rfl))) (qa_cons (q_pow (q_rd (pv 2)) q_int) qa_nil))))
    (qxs_cons (qx_tryR (ie := 4) hL C_looked (hr.mono (by decide)) rfl (qa_cons (q_rd (pv 3)) (qa_cons (q_rd (pv 2)) qa_nil)) nd rfl rfl rfl rfl O_BadNote rfl (tr_cons O_NoRule.bound (testx_two rfl O_NoRule.bound rfl O_NotBack.bound (exm_two1 n_NoRule_NoRule n_NoRule_NotBack)) O_NoRule.exc (tr_cons O_NotBack.bound (testx_two rfl O_NoRule.bound rfl O_NotBack.bound (exm_two2 n_NotBack_NoRule n_NotBack_NotBack)) O_NotBack.exc tr_nil)))
    (qxs_one (qx_lift qs_never))))))))
noncomputable abbrev s__law_refused : Stmt := top 25
noncomputable def m__law_refused : MS := (sSeq (sSet 3 (mOpF gLst' mNil))
    (sSeq (sTryB (mTru (mOpF (gEq false) (mCons (mRd 0) (mCons (mC (.int 0)) mNil)))) (mRef 2 FX_read_board (mCons (mRd 1) (mCons (mRd 2) mNil))) (mRef 1 FX_read_rule (mCons (mRd 1) mNil)) 4 3 (tbC "BadNote" ([true, true, false] ++ [false, false]) tb0))
    (sRet (mOpF (gEq false) (mCons (mRd 3) (mCons (mOpF gLst' (mCons (mC (.bl true)) (mCons (mC (.bl true)) (mCons (mC (.bl false)) (mCons (mC (.bl false)) (mCons (mC (.bl false)) mNil)))))) mNil))))))
noncomputable def F__law_refused : List Slot → Option Slot := runF 3 5 m__law_refused
theorem sc__law_refused : FnScope ["way", "text", "colours", "marks", "e"] ["way", "text", "colours"] (defScope s__law_refused) := ⟨rfl, rfl, rfl, by decide +kernel, rfl, by decide +kernel, by decide +kernel⟩
theorem ok__law_refused {P : Program} {w : World} {K : PySem.W.Frag} {mg : Str → Option Value} {base : Heap} (T : Names mg K) {x_BadNote x_BlockError x_NoBoard x_NotBack x_NoRule : Addr} (O_BadNote : OwnX K mg "BadNote" x_BadNote) (B_BlockError : mg "BlockError" = some (.ref x_BlockError)) (B_NoBoard : mg "NoBoard" = some (.ref x_NoBoard)) (B_BadNote : mg "BadNote" = some (.ref x_BadNote)) (B_NotBack : mg "NotBack" = some (.ref x_NotBack)) (B_NoRule : mg "NoRule" = some (.ref x_NoRule)) (e_BadNote_BlockError : PySem.W.exmOne K (.ref x_BadNote) (.ref x_BlockError) = some true) (K_BadNote : ExcKit K x_BadNote) (V_ValueError : mg "ValueError" = none) (i_BadNote_NoBoard : PySem.W.kitOne K (.ref x_BadNote) (.ref x_NoBoard) = some false) (i_BadNote_ValueError : PySem.W.kitOne K (.ref x_BadNote) (.type "ValueError") = some true) (i_BadNote_BadNote : PySem.W.kitOne K (.ref x_BadNote) (.ref x_BadNote) = some true) (i_BadNote_NotBack : PySem.W.kitOne K (.ref x_BadNote) (.ref x_NotBack) = some false) (i_BadNote_NoRule : PySem.W.kitOne K (.ref x_BadNote) (.ref x_NoRule) = some false) (C_read_board : CalX P w K mg base 3 "read_board" 2 FX_read_board) (C_read_rule : CalX P w K mg base 3 "read_rule" 1 FX_read_rule) {f : Addr} {fd : FuncData} (F : Fun K "_law_refused" "_law_refused" s__law_refused f fd) (hm : mg "_law_refused" = some (.ref f)) : Cal P w K mg base 4 "_law_refused" 3 F__law_refused := by
  refine ⟨f, fd, _, fn_ok F sc__law_refused fun cdv A outer s H E hr => ?_, F.binds (ps := ["way", "text", "colours"]) (fun _ _ _ _ _ _ us hl => match us, hl with | [_, _, _], _ => rfl), F.kp, hm⟩
  have nd := sc__law_refused.nd
  exact (qs_cons (qs_set (i := 3) nd rfl (by first | exact Or.inl rfl | exact Or.inr rfl) (q_lst qa_nil))
    (qs_cons (qs_tryB (ie := 4) (im := 3) ((qt_eq hr.units) (q_rd (pv 0)) q_int) C_read_board (hr.mono (by decide)) rfl (qa_cons (q_rd (pv 1)) (qa_cons (q_rd (pv 2)) qa_nil)) C_read_rule (hr.mono (by decide)) rfl (qa_cons (q_rd (pv 1)) qa_nil) (fun _ _ z => z) (tb2_one O_BadNote.bound e_BadNote_BlockError (isxs_cons (isx_own K_BadNote rfl T.isinstance rfl rfl rfl B_BadNote i_BadNote_BadNote) (isxs_cons (isx_blt K_BadNote rfl T.isinstance rfl rfl rfl V_ValueError boot_ValueError i_BadNote_ValueError) (isxs_cons (isx_own K_BadNote rfl T.isinstance rfl rfl rfl B_NoBoard i_BadNote_NoBoard) isxs_nil))) (isxs_cons (isx_own K_BadNote rfl T.isinstance rfl rfl rfl B_NoRule i_BadNote_NoRule) (isxs_cons (isx_own K_BadNote rfl T.isinstance rfl rfl rfl B_NotBack i_BadNote_NotBack) isxs_nil)) (by decide) (by decide)) rfl rfl rfl B_BlockError nd rfl rfl rfl rfl)
    (qs_one (qs_ret ((q_eq hr.units) (q_rd (pv 3)) (q_lst (qa_cons q_bl (qa_cons q_bl (qa_cons q_bl (qa_cons q_bl (qa_cons q_bl qa_nil)))))))))))
noncomputable abbrev s__law_bad_rule : Stmt := top 27
noncomputable def i0__law_bad_rule : MS := (sIf (mTru (mOpF (gEq false) (mCons (mRd 5) (mCons (mC (.int 8)) mNil)))) (sSet 4 (mOpF gCatS (mCons (mC (.str (Str.ofString "rule "))) (mCons (mOpF gStrI (mCons (mOpF gSub (mCons (mC (.int 5)) (mCons (mRd 1) mNil))) mNil)) mNil)))) (sSeq (sSet 8 (mOpF gIx (mCons (mOpF gLst' (mCons (mC (.str (Str.ofString "\n"))) (mCons (mC (.str (Str.ofString "x\n"))) (mCons (mC (.str (Str.ofString " \n"))) mNil)))) (mCons (mOpF gMod (mCons (mOpF gDiv (mCons (mRd 2) (mCons (mC (.int 700)) mNil))) (mCons (mC (.int 3)) mNil))) mNil))))
    (sRet (mOpF gCatS (mCons (mOpF gCatS (mCons (mOpF gCatS (mCons (mOpF gCatS (mCons (mRd 4) (mCons (mC (.str (Str.ofString "\n"))) mNil))) (mCons (mOpF (gJoin (Str.ofString " ")) (mCons (mRd 3) mNil)) mNil))) (mCons (mC (.str (Str.ofString "\n"))) mNil))) (mCons (mRd 8) mNil))))))
noncomputable def i1__law_bad_rule : MS := (sIf (mTru (mOpF (gEq false) (mCons (mRd 5) (mCons (mC (.int 7)) mNil)))) (sDrop (mMeth 3 gInsert (mCons (mOpF gMod (mCons (mOpF gDiv (mCons (mRd 2) (mCons (mC (.int 9)) mNil))) (mCons (mOpF gAdd (mCons (mOpF gLen (mCons (mRd 3) mNil)) (mCons (mC (.int 1)) mNil))) mNil))) (mCons (mC (.str (Str.ofString ""))) mNil)))) i0__law_bad_rule)
noncomputable def i2__law_bad_rule : MS := (sIf (mTru (mOpF (gEq false) (mCons (mRd 5) (mCons (mC (.int 5)) mNil)))) (sRet (mOpF gCatS (mCons (mOpF gCatS (mCons (mRd 4) (mCons (mC (.str (Str.ofString "\n"))) mNil))) (mCons (mOpF (gJoin (Str.ofString " ")) (mCons (mRd 3) mNil)) mNil)))) i1__law_bad_rule)
noncomputable def i3__law_bad_rule : MS := (sIf (mTru (mOpF (gEq false) (mCons (mRd 5) (mCons (mC (.int 4)) mNil)))) (sAsg (setIx 3 (mRd 6)) (mOpF gIx (mCons (mRd 3) (mCons (mOpF gMod (mCons (mOpF gAdd (mCons (mOpF gAdd (mCons (mRd 6) (mCons (mC (.int 1)) mNil))) (mCons (mOpF gMod (mCons (mOpF gDiv (mCons (mRd 2) (mCons (mC (.int 700)) mNil))) (mCons (mOpF gSub (mCons (mOpF gLen (mCons (mRd 3) mNil)) (mCons (mC (.int 1)) mNil))) mNil))) mNil))) (mCons (mOpF gLen (mCons (mRd 3) mNil)) mNil))) mNil)))) i2__law_bad_rule)
noncomputable def i4__law_bad_rule : MS := (sIf (mTru (mOpF (gEq false) (mCons (mRd 5) (mCons (mC (.int 3)) mNil)))) (sDrop (mMeth 3 gPopAt (mCons (mRd 6) mNil))) i3__law_bad_rule)
noncomputable def i5__law_bad_rule : MS := (sIf (mTru (mOpF (gEq false) (mCons (mRd 5) (mCons (mC (.int 2)) mNil)))) (sDrop (mMeth 3 gInsert (mCons (mRd 6) (mCons (mOpF gIx (mCons (mRd 3) (mCons (mRd 6) mNil))) mNil)))) i4__law_bad_rule)
noncomputable def i6__law_bad_rule : MS := (sIf (mTru (mOpF (gEq false) (mCons (mRd 5) (mCons (mC (.int 1)) mNil)))) (sAsg (setIx 3 (mRd 6)) (mOpF gIx (mCons (mOpF gLst' (mStrs [Str.ofString "", Str.ofString "-1", Str.ofString "+1", Str.ofString "00", Str.ofString "1_0", Str.ofString "x", Str.ofString "81", Str.ofString "100", Str.ofString "1.0", Str.ofString "-0", Str.ofString "1e1"])) (mCons (mOpF gMod (mCons (mOpF gDiv (mCons (mRd 2) (mCons (mC (.int 700)) mNil))) (mCons (mC (.int 11)) mNil))) mNil)))) i5__law_bad_rule)
noncomputable def i7__law_bad_rule : MS := (sIf (mTru (mOpF (gEq false) (mCons (mRd 5) (mCons (mC (.int 0)) mNil)))) (sSeq (sSet 7 (mOpF gLst' (mStrs [Str.ofString "", Str.ofString "rule", Str.ofString "rule 4", Str.ofString "rule 1", Str.ofString "Rule 2", Str.ofString "rule  2", Str.ofString "rule 2 ", Str.ofString " rule 2", Str.ofString "rule 02", Str.ofString "rules 2", Str.ofString "2"])))
    (sSet 4 (mOpF gIx (mCons (mRd 7) (mCons (mOpF gMod (mCons (mOpF gDiv (mCons (mRd 2) (mCons (mC (.int 700)) mNil))) (mCons (mOpF gLen (mCons (mRd 7) mNil)) mNil))) mNil))))) i6__law_bad_rule)
noncomputable def r0__law_bad_rule : MS := (sSeq i7__law_bad_rule
    (sRet (mOpF gCatS (mCons (mOpF gCatS (mCons (mOpF gCatS (mCons (mRd 4) (mCons (mC (.str (Str.ofString "\n"))) mNil))) (mCons (mOpF (gJoin (Str.ofString " ")) (mCons (mRd 3) mNil)) mNil))) (mCons (mC (.str (Str.ofString "\n"))) mNil)))))
noncomputable def c0__law_bad_rule : M R := mComp [9] (setN 9) (mItS (mFr 0)) mYes (mOpF gStrI (mCons (mRd 9) mNil))
noncomputable def m__law_bad_rule : MS := (sSeq (sSet 3 c0__law_bad_rule)
    (sSeq (sSet 4 (mOpF gCatS (mCons (mC (.str (Str.ofString "rule "))) (mCons (mOpF gStrI (mCons (mRd 1) mNil)) mNil))))
    (sSeq (sSet 5 (mOpF gMod (mCons (mRd 2) (mCons (mC (.int 9)) mNil))))
    (sSeq (sSet 6 (mOpF gMod (mCons (mOpF gDiv (mCons (mRd 2) (mCons (mC (.int 9)) mNil))) (mCons (mOpF gLen (mCons (mRd 3) mNil)) mNil))))
    r0__law_bad_rule))))
noncomputable def F__law_bad_rule : List Slot → Option Slot := runF 3 10 m__law_bad_rule
theorem sc__law_bad_rule : FnScope ["rule", "colours", "cell", "words", "head", "way", "at", "some", "more", "number"] ["rule", "colours", "cell"] (defScope s__law_bad_rule) := ⟨rfl, rfl, rfl, by decide +kernel, rfl, by decide +kernel, by decide +kernel⟩
theorem rows__law_bad_rule : ∃ es0 es1, strsE es0 = some [Str.ofString "", Str.ofString "rule", Str.ofString "rule 4", Str.ofString "rule 1", Str.ofString "Rule 2", Str.ofString "rule  2", Str.ofString "rule 2 ", Str.ofString " rule 2", Str.ofString "rule 02", Str.ofString "rules 2", Str.ofString "2"] ∧ strsE es1 = some [Str.ofString "", Str.ofString "-1", Str.ofString "+1", Str.ofString "00", Str.ofString "1_0", Str.ofString "x", Str.ofString "81", Str.ofString "100", Str.ofString "1.0", Str.ofString "-0", Str.ofString "1e1"] ∧ defBody s__law_bad_rule = putX es0 es1 (defBody s__law_bad_rule) := ⟨getE (ifA (defBody s__law_bad_rule)), getE (ifB (defBody s__law_bad_rule)), by kernel_rfl, by kernel_rfl, by kernel_rfl⟩
theorem ok__law_bad_rule {P : Program} {w : World} {K : PySem.W.Frag} {mg : Str → Option Value} {base : Heap} (T : Names mg K) {f : Addr} {fd : FuncData} (F : Fun K "_law_bad_rule" "_law_bad_rule" s__law_bad_rule f fd) (hm : mg "_law_bad_rule" = some (.ref f)) : Cal P w K mg base 1 "_law_bad_rule" 3 F__law_bad_rule := by
  refine ⟨f, fd, _, fn_ok F sc__law_bad_rule fun cdv A outer s H E hr => ?_, F.binds (ps := ["rule", "colours", "cell"]) (fun _ _ _ _ _ _ us hl => match us, hl with | [_, _, _], _ => rfl), F.kp, hm⟩
  have nd := sc__law_bad_rule.nd
  obtain ⟨es0, es1, he0, he1, hb⟩ := rows__law_bad_rule
  rw [hb]
  exact (qs_cons (qs_setC (i := 3) rfl nd rfl rfl (qi_seq (q_fr (pv 0))) ⟨compOk_of (by kernel_rfl), fun _ _ _ _ _ => (qg_name (pg_name (i := 9) nd rfl (by first | exact Or.inl rfl | exact Or.inr rfl))), fun _ _ _ _ _ => qts_nil, fun _ _ _ _ _ => (q_strI (x := "str") rfl T.str (qa_cons (q_rd (pv 9)) qa_nil))⟩)
    (qs_cons (qs_set (i := 4) nd rfl (by first | exact Or.inl rfl | exact Or.inr rfl) (q_catS q_str (q_strI (x := "str") rfl T.str (qa_cons (q_rd (pv 1)) qa_nil))))
    (qs_cons (qs_set (i := 5) nd rfl (by first | exact Or.inl rfl | exact Or.inr rfl) (q_mod (q_rd (pv 2)) q_int))
    (qs_cons (qs_set (i := 6) nd rfl (by first | exact Or.inl rfl | exact Or.inr rfl) (q_mod (q_div (q_rd (pv 2)) q_int) (q_callB call_len_seq sr_len rfl T.len PySem.boot_len (qa_cons (q_rd (pv 3)) qa_nil))))
    (qs_cons (qs_if ((qt_eq hr.units) (q_rd (pv 5)) q_int) (qs_cons (qs_set (i := 7) nd rfl (by first | exact Or.inl rfl | exact Or.inr rfl) (q_lst (qa_allStr he0)))
    (qs_one (qs_set (i := 4) nd rfl (by first | exact Or.inl rfl | exact Or.inr rfl) (q_item (q_rd (pv 7)) (q_mod (q_div (q_rd (pv 2)) q_int) (q_callB call_len_seq sr_len rfl T.len PySem.boot_len (qa_cons (q_rd (pv 7)) qa_nil))) (fun _ _ => rfl))))) (qs_one (qs_if ((qt_eq hr.units) (q_rd (pv 5)) q_int) (qs_one (qs_asg (q_item (q_lst (qa_allStr he1)) (q_mod (q_div (q_rd (pv 2)) q_int) q_int) (fun _ _ => rfl)) (qg_ix (pv 3) (q_rd (pv 6))))) (qs_one (qs_if ((qt_eq hr.units) (q_rd (pv 5)) q_int) (qs_one (qs_expr (q_meth PySem.F.plainAttrs_list PySem.F.slot_list_insert PySem.F.type_list_insert mt_insert mr_insert (pv 3) (qa_cons (q_rd (pv 6)) (qa_cons (q_item (q_rd (pv 3)) (q_rd (pv 6)) (fun _ _ => rfl)) qa_nil))))) (qs_one (qs_if ((qt_eq hr.units) (q_rd (pv 5)) q_int) (qs_one (qs_expr (q_meth PySem.F.plainAttrs_list PySem.F.slot_list_pop PySem.F.type_list_pop mt_popAt mr_popAt (pv 3) (qa_cons (q_rd (pv 6)) qa_nil)))) (qs_one (qs_if ((qt_eq hr.units) (q_rd (pv 5)) q_int) (qs_one (qs_asg (q_item (q_rd (pv 3)) (q_mod (q_add (q_add (q_rd (pv 6)) q_int) (q_mod (q_div (q_rd (pv 2)) q_int) (q_sub (q_callB call_len_seq sr_len rfl T.len PySem.boot_len (qa_cons (q_rd (pv 3)) qa_nil)) q_int))) (q_callB call_len_seq sr_len rfl T.len PySem.boot_len (qa_cons (q_rd (pv 3)) qa_nil))) (fun _ _ => rfl)) (qg_ix (pv 3) (q_rd (pv 6))))) (qs_one (qs_if ((qt_eq hr.units) (q_rd (pv 5)) q_int) (qs_one (qs_ret (q_catS (q_catS (q_rd (pv 4)) q_str) (q_join (q_rd (pv 3)))))) (qs_one (qs_if ((qt_eq hr.units) (q_rd (pv 5)) q_int) (qs_one (qs_expr (q_meth PySem.F.plainAttrs_list PySem.F.slot_list_insert PySem.F.type_list_insert mt_insert mr_insert (pv 3) (qa_cons (q_mod (q_div (q_rd (pv 2)) q_int) (q_add (q_callB call_len_seq sr_len rfl T.len PySem.boot_len (qa_cons (q_rd (pv 3)) qa_nil)) q_int)) (qa_cons q_str qa_nil))))) (qs_one (qs_if ((qt_eq hr.units) (q_rd (pv 5)) q_int) (qs_one (qs_set (i := 4) nd rfl (by first | exact Or.inl rfl | exact Or.inr rfl) (q_catS q_str (q_strI (x := "str") rfl T.str (qa_cons (q_sub q_int (q_rd (pv 1))) qa_nil))))) (qs_cons (qs_set (i := 8) nd rfl (by first | exact Or.inl rfl | exact Or.inr rfl) (q_item (q_lst (qa_cons q_str (qa_cons q_str (qa_cons q_str qa_nil)))) (q_mod (q_div (q_rd (pv 2)) q_int) q_int) (fun _ _ => rfl)))
    (qs_one (qs_ret (q_catS (q_catS (q_catS (q_catS (q_rd (pv 4)) q_str) (q_join (q_rd (pv 3)))) q_str) (q_rd (pv 8)))))))))))))))))))))
    (qs_one (qs_ret (q_catS (q_catS (q_catS (q_rd (pv 4)) q_str) (q_join (q_rd (pv 3)))) q_str))))))))
noncomputable abbrev s__law_cell_at : Stmt := top 21
theorem sc__law_cell_at : FnScope ["script", "k"] ["script", "k"] (defScope s__law_cell_at) := ⟨rfl, rfl, rfl, by decide +kernel, rfl, by decide +kernel, by decide +kernel⟩
theorem ok__law_cell_at {P : Program} {w : World} {K : PySem.W.Frag} {mg : Str → Option Value} {base : Heap} (T : Names mg K) {f : Addr} {fd : FuncData} (F : Fun K "_law_cell_at" "_law_cell_at" s__law_cell_at f fd) (hm : mg "_law_cell_at" = some (.ref f)) : Cal P w K mg base 1 "_law_cell_at" 2 F__law_cell_at := by
  refine ⟨f, fd, _, fn_ok F sc__law_cell_at fun cdv A outer s H E hr => ?_, F.binds (ps := ["script", "k"]) (fun _ _ _ _ _ _ us hl => match us, hl with | [_, _], _ => rfl), F.kp, hm⟩
  have nd := sc__law_cell_at.nd
  exact (qs_cons (qs_if (qt_lt (q_rd (pv 1)) (q_callB call_len_seq sr_len rfl T.len PySem.boot_len (qa_cons (q_rd (pv 0)) qa_nil))) (qs_one (qs_ret (q_item (q_rd (pv 0)) (q_rd (pv 1)) (fun _ _ => rfl)))) qs_nil)
    (qs_one (qs_ret q_int)))
noncomputable abbrev s__law_bad_board : Stmt := top 26
noncomputable def c0__law_bad_board : M R := mComp [8] (setN 8) (mItS (mFr 6)) mYes (mOpF gCatS (mCons (mRd 8) (mCons (mC (.str (Str.ofString "\n"))) mNil)))
noncomputable def i0__law_bad_board : MS := (sIf (mTru (mOpF (gEq false) (mCons (mRd 3) (mCons (mC (.int 4)) mNil)))) (sSeq (sSet 5 (mOpF gMod (mCons (mOpF gDiv (mCons (mRd 2) (mCons (mC (.int 48)) mNil))) (mCons (mOpF gLenS (mCons (mOpF gIx (mCons (mRd 0) (mCons (mRd 4) mNil))) mNil)) mNil))))
    (sAsg (setIx 6 (mRd 4)) (mOpF gCatS (mCons (mOpF gCatS (mCons (mSlS (mOpF gIx (mCons (mRd 6) (mCons (mRd 4) mNil))) mNoP (mPt (mRd 5))) (mCons (mOpF gIx (mCons (mOpF gLst' (mCons (mOpF gStrI (mCons (mRd 1) mNil)) (mCons (mC (.str (Str.ofString "9"))) (mCons (mC (.str (Str.ofString " "))) (mCons (mC (.str (Str.ofString "-"))) (mCons (mC (.str (Str.ofString "_"))) (mCons (mOpF gStrI (mCons (mRd 1) mNil)) mNil))))))) (mCons (mOpF gMod (mCons (mOpF gDiv (mCons (mRd 2) (mCons (mC (.int 500)) mNil))) (mCons (mC (.int 6)) mNil))) mNil))) mNil))) (mCons (mSlS (mOpF gIx (mCons (mRd 6) (mCons (mRd 4) mNil))) (mPt (mOpF gAdd (mCons (mRd 5) (mCons (mC (.int 1)) mNil)))) mNoP) mNil))))) (sAsg (setIx 6 (mRd 4)) (mSlS (mOpF gIx (mCons (mRd 6) (mCons (mRd 4) mNil))) mNoP (mPt (mOpF gNeg (mCons (mC (.int 1)) mNil))))))
noncomputable def i1__law_bad_board : MS := (sIf (mTru (mOpF (gEq false) (mCons (mRd 3) (mCons (mC (.int 3)) mNil)))) (sRet (mOpF (gJoin (Str.ofString "\n")) (mCons (mRd 6) mNil))) i0__law_bad_board)
noncomputable def i2__law_bad_board : MS := (sIf (mTru (mOpF (gEq false) (mCons (mRd 3) (mCons (mC (.int 2)) mNil)))) (sSet 6 (mPick (mCons (mSl (mRd 6) mNoP (mPt (mOpF gNeg (mCons (mC (.int 1)) mNil)))) (mCons (mOpF gCatL (mCons (mRd 6) (mCons (mSl (mRd 6) mNoP (mPt (mC (.int 1)))) mNil))) (mCons (mOpF gLst' mNil) (mCons (mOpF gLst' (mCons (mC (.str (Str.ofString ""))) (mCons (mC (.str (Str.ofString ""))) mNil))) (mCons (mOpF gCatL (mCons (mRd 6) (mCons (mOpF gLst' (mCons (mC (.str (Str.ofString ""))) mNil)) mNil))) mNil))))) (mOpF gMod (mCons (mOpF gDiv (mCons (mRd 2) (mCons (mC (.int 500)) mNil))) (mCons (mC (.int 5)) mNil))))) i1__law_bad_board)
noncomputable def i3__law_bad_board : MS := (sIf (mTru (mOpF (gEq false) (mCons (mRd 3) (mCons (mC (.int 1)) mNil)))) (sAsg (setIx 6 (mRd 4)) (mOpF gCatS (mCons (mOpF gCatS (mCons (mSlS (mOpF gIx (mCons (mRd 6) (mCons (mRd 4) mNil))) mNoP (mPt (mRd 5))) (mCons (mC (.str (Str.ofString "0"))) mNil))) (mCons (mSlS (mOpF gIx (mCons (mRd 6) (mCons (mRd 4) mNil))) (mPt (mRd 5)) mNoP) mNil)))) i2__law_bad_board)
noncomputable def i4__law_bad_board : MS := (sIf (mTru (mOpF (gEq false) (mCons (mRd 3) (mCons (mC (.int 0)) mNil)))) (sSeq (sSet 7 (mOpF gIx (mCons (mOpF gLst' (mCons (mOpF gStrI (mCons (mRd 1) mNil)) (mCons (mC (.str (Str.ofString "9"))) (mCons (mC (.str (Str.ofString " "))) (mCons (mC (.str (Str.ofString "-"))) (mCons (mC (.str (Str.ofString "_"))) (mCons (mC (.str (Str.ofString "a"))) (mCons (mC (.str (Str.ofString "+"))) (mCons (mC (.str (Str.ofString "."))) mNil))))))))) (mCons (mOpF gMod (mCons (mOpF gDiv (mCons (mRd 2) (mCons (mC (.int 500)) mNil))) (mCons (mC (.int 8)) mNil))) mNil))))
    (sAsg (setIx 6 (mRd 4)) (mOpF gCatS (mCons (mOpF gCatS (mCons (mSlS (mOpF gIx (mCons (mRd 6) (mCons (mRd 4) mNil))) mNoP (mPt (mRd 5))) (mCons (mRd 7) mNil))) (mCons (mSlS (mOpF gIx (mCons (mRd 6) (mCons (mRd 4) mNil))) (mPt (mRd 5)) mNoP) mNil))))) i3__law_bad_board)
noncomputable def r0__law_bad_board : MS := (sSeq i4__law_bad_board
    (sRet (mOpF (gJoin (Str.ofString "")) (mCons c0__law_bad_board mNil))))
noncomputable def m__law_bad_board : MS := (sSeq (sSet 3 (mOpF gMod (mCons (mRd 2) (mCons (mC (.int 6)) mNil))))
    (sSeq (sSet 4 (mOpF gMod (mCons (mOpF gDiv (mCons (mRd 2) (mCons (mC (.int 6)) mNil))) (mCons (mOpF gLen (mCons (mRd 0) mNil)) mNil))))
    (sSeq (sSet 5 (mOpF gMod (mCons (mOpF gDiv (mCons (mRd 2) (mCons (mC (.int 48)) mNil))) (mCons (mOpF gAdd (mCons (mOpF gLenS (mCons (mOpF gIx (mCons (mRd 0) (mCons (mRd 4) mNil))) mNil)) (mCons (mC (.int 1)) mNil))) mNil))))
    (sSeq (sSet 6 (mOpF gList (mCons (mRd 0) mNil)))
    r0__law_bad_board))))
noncomputable def F__law_bad_board : List Slot → Option Slot := runF 3 9 m__law_bad_board
theorem sc__law_bad_board : FnScope ["rows", "colours", "cell", "way", "y", "at", "bad", "sign", "row"] ["rows", "colours", "cell"] (defScope s__law_bad_board) := ⟨rfl, rfl, rfl, by decide +kernel, rfl, by decide +kernel, by decide +kernel⟩
theorem ok__law_bad_board {P : Program} {w : World} {K : PySem.W.Frag} {mg : Str → Option Value} {base : Heap} (T : Names mg K) {f : Addr} {fd : FuncData} (F : Fun K "_law_bad_board" "_law_bad_board" s__law_bad_board f fd) (hm : mg "_law_bad_board" = some (.ref f)) : Cal P w K mg base 1 "_law_bad_board" 3 F__law_bad_board := by
  refine ⟨f, fd, _, fn_ok F sc__law_bad_board fun cdv A outer s H E hr => ?_, F.binds (ps := ["rows", "colours", "cell"]) (fun _ _ _ _ _ _ us hl => match us, hl with | [_, _, _], _ => rfl), F.kp, hm⟩
  have nd := sc__law_bad_board.nd
  exact (qs_cons (qs_set (i := 3) nd rfl (by first | exact Or.inl rfl | exact Or.inr rfl) (q_mod (q_rd (pv 2)) q_int))
    (qs_cons (qs_set (i := 4) nd rfl (by first | exact Or.inl rfl | exact Or.inr rfl) (q_mod (q_div (q_rd (pv 2)) q_int) (q_callB call_len_seq sr_len rfl T.len PySem.boot_len (qa_cons (q_rd (pv 0)) qa_nil))))
    (qs_cons (qs_set (i := 5) nd rfl (by first | exact Or.inl rfl | exact Or.inr rfl) (q_mod (q_div (q_rd (pv 2)) q_int) (q_add (q_callB call_len_str sr_lenS rfl T.len PySem.boot_len (qa_cons (q_item (q_rd (pv 0)) (q_rd (pv 4)) (fun _ _ => rfl)) qa_nil)) q_int)))
    (qs_cons (qs_set (i := 6) nd rfl (by first | exact Or.inl rfl | exact Or.inr rfl) (q_callTy call_list_of sr_list rfl T.list PyProof.Rows.boot_list (qa_cons (q_rd (pv 0)) qa_nil)))
    (qs_cons (qs_if ((qt_eq hr.units) (q_rd (pv 3)) q_int) (qs_cons (qs_set (i := 7) nd rfl (by first | exact Or.inl rfl | exact Or.inr rfl) (q_item (q_lst (qa_cons (q_strI (x := "str") rfl T.str (qa_cons (q_rd (pv 1)) qa_nil)) (qa_cons q_str (qa_cons q_str (qa_cons q_str (qa_cons q_str (qa_cons q_str (qa_cons q_str (qa_cons q_str qa_nil))))))))) (q_mod (q_div (q_rd (pv 2)) q_int) q_int) (fun _ _ => rfl)))
    (qs_one (qs_asg (q_catS (q_catS (q_sliceS (q_item (q_rd (pv 6)) (q_rd (pv 4)) (fun _ _ => rfl)) qo_none (qo_some (q_rd (pv 5)))) (q_rd (pv 7))) (q_sliceS (q_item (q_rd (pv 6)) (q_rd (pv 4)) (fun _ _ => rfl)) (qo_some (q_rd (pv 5))) qo_none)) (qg_ix (pv 6) (q_rd (pv 4)))))) (qs_one (qs_if ((qt_eq hr.units) (q_rd (pv 3)) q_int) (qs_one (qs_asg (q_catS (q_catS (q_sliceS (q_item (q_rd (pv 6)) (q_rd (pv 4)) (fun _ _ => rfl)) qo_none (qo_some (q_rd (pv 5)))) q_str) (q_sliceS (q_item (q_rd (pv 6)) (q_rd (pv 4)) (fun _ _ => rfl)) (qo_some (q_rd (pv 5))) qo_none)) (qg_ix (pv 6) (q_rd (pv 4))))) (qs_one (qs_if ((qt_eq hr.units) (q_rd (pv 3)) q_int) (qs_one (qs_set (i := 6) nd rfl (by first | exact Or.inl rfl | exact Or.inr rfl) (q_pick (qa_cons (q_slice (q_rd (pv 6)) qo_none (qo_some (q_neg q_int))) (qa_cons (q_catL (q_rd (pv 6)) (q_slice (q_rd (pv 6)) qo_none (qo_some q_int))) (qa_cons (q_lst qa_nil) (qa_cons (q_lst (qa_cons q_str (qa_cons q_str qa_nil))) (qa_cons (q_catL (q_rd (pv 6)) (q_lst (qa_cons q_str qa_nil))) qa_nil))))) (q_mod (q_div (q_rd (pv 2)) q_int) q_int) (fun _ _ => rfl)))) (qs_one (qs_if ((qt_eq hr.units) (q_rd (pv 3)) q_int) (qs_one (qs_ret (q_join (q_rd (pv 6))))) (qs_one (qs_if ((qt_eq hr.units) (q_rd (pv 3)) q_int) (qs_cons (qs_set (i := 5) nd rfl (by first | exact Or.inl rfl | exact Or.inr rfl) (q_mod (q_div (q_rd (pv 2)) q_int) (q_callB call_len_str sr_lenS rfl T.len PySem.boot_len (qa_cons (q_item (q_rd (pv 0)) (q_rd (pv 4)) (fun _ _ => rfl)) qa_nil))))
    (qs_one (qs_asg (q_catS (q_catS (q_sliceS (q_item (q_rd (pv 6)) (q_rd (pv 4)) (fun _ _ => rfl)) qo_none (qo_some (q_rd (pv 5)))) (q_item (q_lst (qa_cons (q_strI (x := "str") rfl T.str (qa_cons (q_rd (pv 1)) qa_nil)) (qa_cons q_str (qa_cons q_str (qa_cons q_str (qa_cons q_str (qa_cons (q_strI (x := "str") rfl T.str (qa_cons (q_rd (pv 1)) qa_nil)) qa_nil))))))) (q_mod (q_div (q_rd (pv 2)) q_int) q_int) (fun _ _ => rfl))) (q_sliceS (q_item (q_rd (pv 6)) (q_rd (pv 4)) (fun _ _ => rfl)) (qo_some (q_add (q_rd (pv 5)) q_int)) qo_none)) (qg_ix (pv 6) (q_rd (pv 4)))))) (qs_one (qs_asg (q_sliceS (q_item (q_rd (pv 6)) (q_rd (pv 4)) (fun _ _ => rfl)) qo_none (qo_some (q_neg q_int))) (qg_ix (pv 6) (q_rd (pv 4))))))))))))))
    (qs_one (qs_ret (q_join (q_comp rfl (qi_seq (q_fr (pv 6))) ⟨compOk_of (by kernel_rfl), fun _ _ _ _ _ => (qg_name (pg_name (i := 8) nd rfl (by first | exact Or.inl rfl | exact Or.inr rfl))), fun _ _ _ _ _ => qts_nil, fun _ _ _ _ _ => (q_catS (q_rd (pv 8)) q_str)⟩)))))))))
noncomputable abbrev s__law_board_by : Stmt := top 24
theorem sc__law_board_by : FnScope ["cell", "width", "height", "colours", "rows", "y", "row", "x"] ["cell", "width", "height", "colours"] (defScope s__law_board_by) := ⟨rfl, rfl, rfl, by decide +kernel, rfl, by decide +kernel, by decide +kernel⟩
theorem ok__law_board_by {P : Program} {w : World} {K : PySem.W.Frag} {mg : Str → Option Value} {base : Heap} (T : Names mg K) {f : Addr} {fd : FuncData} (F : Fun K "_law_board_by" "_law_board_by" s__law_board_by f fd) (hm : mg "_law_board_by" = some (.ref f)) : Cal P w K mg base 1 "_law_board_by" 4 F__law_board_by := by
  refine ⟨f, fd, _, fn_ok F sc__law_board_by fun cdv A outer s H E hr => ?_, F.binds (ps := ["cell", "width", "height", "colours"]) (fun _ _ _ _ _ _ us hl => match us, hl with | [_, _, _, _], _ => rfl), F.kp, hm⟩
  have nd := sc__law_board_by.nd
  exact (qs_cons (qs_set (i := 4) nd rfl (by first | exact Or.inl rfl | exact Or.inr rfl) (q_lst qa_nil))
    (qs_cons (qs_for PassesOwn.never rfl (qi_range1 rfl T.range (qa_cons (q_rd (pv 2)) qa_nil)) (qg_name (pg_name (i := 5) nd rfl (by first | exact Or.inl rfl | exact Or.inr rfl))) (qs_cons (qs_set (i := 6) nd rfl (by first | exact Or.inl rfl | exact Or.inr rfl) (q_lst qa_nil))
    (qs_cons (qs_for PassesOwn.never rfl (qi_range1 rfl T.range (qa_cons (q_rd (pv 1)) qa_nil)) (qg_name (pg_name (i := 7) nd rfl (by first | exact Or.inl rfl | exact Or.inr rfl))) (qs_cons (qs_set (i := 0) nd rfl (by first | exact Or.inl rfl | exact Or.inr rfl) (q_mod (q_add (q_mul (q_rd (pv 0)) q_int) q_int) q_int))
    (qs_one (qs_expr (q_meth PySem.F.plainAttrs_list PySem.F.slot_list_append PySem.F.type_list_append mt_append mr_append (pv 6) (qa_cons (q_mul (q_mod (q_div (q_rd (pv 0)) q_int) (q_rd (pv 3))) (q_callTy call_int1 sr_int rfl T.int PyProof.Rows.boot_int (qa_cons (q_gt (q_mod (q_div (q_rd (pv 0)) q_int) q_int) q_int) qa_nil))) qa_nil))))))
    (qs_one (qs_expr (q_meth PySem.F.plainAttrs_list PySem.F.slot_list_append PySem.F.type_list_append mt_append mr_append (pv 4) (qa_cons (q_callTy call_tuple_of sr_tuple rfl T.tuple PyProof.Rows.boot_tuple (qa_cons (q_rd (pv 6)) qa_nil)) qa_nil)))))))
    (qs_one (qs_ret (q_callTy call_tuple_of sr_tuple rfl T.tuple PyProof.Rows.boot_tuple (qa_cons (q_rd (pv 4)) qa_nil))))))
noncomputable abbrev s__law_named : Stmt := top 23
theorem sc__law_named : FnScope ["kind", "number", "bits", "three", "bit"] ["kind", "number"] (defScope s__law_named) := ⟨rfl, rfl, rfl, by decide +kernel, rfl, by decide +kernel, by decide +kernel⟩
theorem ok__law_named {P : Program} {w : World} {K : PySem.W.Frag} {mg : Str → Option Value} {base : Heap} (T : Names mg K) {f : Addr} {fd : FuncData} (F : Fun K "_law_named" "_law_named" s__law_named f fd) (hm : mg "_law_named" = some (.ref f)) : Cal P w K mg base 1 "_law_named" 2 F__law_named := by
  refine ⟨f, fd, _, fn_ok F sc__law_named fun cdv A outer s H E hr => ?_, F.binds (ps := ["kind", "number"]) (fun _ _ _ _ _ _ us hl => match us, hl with | [_, _], _ => rfl), F.kp, hm⟩
  have nd := sc__law_named.nd
  exact (qs_cons (qs_set (i := 2) nd rfl (by first | exact Or.inl rfl | exact Or.inr rfl) (q_lst (qa_cons (q_mod (q_div (q_rd (pv 1)) q_int) q_int) (qa_cons (q_mod (q_div (q_rd (pv 1)) q_int) q_int) (qa_cons (q_mod (q_div (q_rd (pv 1)) q_int) q_int) (qa_cons (q_mod (q_rd (pv 1)) q_int) qa_nil))))))
    (qs_cons (qs_if ((qt_eq hr.units) (q_rd (pv 0)) q_int) (qs_one (qs_set (i := 2) nd rfl (by first | exact Or.inl rfl | exact Or.inr rfl) (q_lst (qa_cons (q_item (q_rd (pv 2)) q_int (fun _ _ => rfl)) (qa_cons (q_item (q_rd (pv 2)) q_int (fun _ _ => rfl)) (qa_cons (q_item (q_rd (pv 2)) q_int (fun _ _ => rfl)) (qa_cons (q_item (q_rd (pv 2)) q_int (fun _ _ => rfl)) qa_nil))))))) qs_nil)
    (qs_cons (qs_if (qt_w (qw_and ((qt_eq hr.units) (q_rd (pv 0)) q_int) (qw_and1 ((qt_eq hr.units) (q_callB (call_sum rfl) sr_sum rfl T.sum PyProof.Rows.boot_sum (qa_cons (q_rd (pv 2)) qa_nil)) q_int)))) (qs_one (qs_expr (q_meth0 PySem.F.plainAttrs_list PySem.F.slot_list_reverse PySem.F.type_list_reverse mt_reverse mr_rev (pv 2)))) (qs_one (qs_if (qt_w (qw_and ((qt_eq hr.units) (q_rd (pv 0)) q_int) (qw_and ((qt_eq hr.units) (q_item (q_rd (pv 2)) q_int (fun _ _ => rfl)) (q_item (q_rd (pv 2)) q_int (fun _ _ => rfl))) (qw_and ((qt_eq hr.units) (q_item (q_rd (pv 2)) q_int (fun _ _ => rfl)) (q_item (q_rd (pv 2)) q_int (fun _ _ => rfl))) (qw_and1 ((qt_eq hr.units) (q_callB (call_sum rfl) sr_sum rfl T.sum PyProof.Rows.boot_sum (qa_cons (q_rd (pv 2)) qa_nil)) q_int)))))) (qs_one (qs_setC (i := 2) rfl nd rfl rfl (qi_seq (q_fr (pv 2))) ⟨compOk_of (by kernel_rfl), fun _ _ _ _ _ => (qg_name (pg_name (i := 4) nd rfl (by first | exact Or.inl rfl | exact Or.inr rfl))), fun _ _ _ _ _ => qts_nil, fun _ _ _ _ _ => (q_sub q_int (q_rd (pv 4)))⟩)) qs_nil)))
    (qs_cons (qs_if (qt_w (qw_and ((qt_eq hr.units) (q_rd (pv 0)) q_int) (qw_and1 ((qt_ne hr.units) (q_callB (call_sum rfl) sr_sum rfl T.sum PyProof.Rows.boot_sum (qa_cons (q_rd (pv 2)) qa_nil)) q_int)))) (qs_cons (qs_set (i := 3) nd rfl (by first | exact Or.inl rfl | exact Or.inr rfl) ((q_eq hr.units) (q_callB (call_sum rfl) sr_sum rfl T.sum PyProof.Rows.boot_sum (qa_cons (q_rd (pv 2)) qa_nil)) q_int))
    (qs_cons (qs_setC (i := 2) rfl nd rfl rfl (qi_seq (q_fr (pv 2))) ⟨compOk_of (by kernel_rfl), fun _ _ _ _ _ => (qg_name (pg_name (i := 4) nd rfl (by first | exact Or.inl rfl | exact Or.inr rfl))), fun _ _ _ _ _ => qts_nil, fun _ _ _ _ _ => (q_sub q_int (q_rd (pv 4)))⟩)
    (qs_one (qs_if (qt_val (q_rd (pv 3))) (qs_one (qs_expr (q_meth0 PySem.F.plainAttrs_list PySem.F.slot_list_reverse PySem.F.type_list_reverse mt_reverse mr_rev (pv 2)))) qs_nil)))) qs_nil)
    (qs_one (qs_ret (q_add (q_add (q_add (q_mul q_int (q_item (q_rd (pv 2)) q_int (fun _ _ => rfl))) (q_mul q_int (q_item (q_rd (pv 2)) q_int (fun _ _ => rfl)))) (q_mul q_int (q_item (q_rd (pv 2)) q_int (fun _ _ => rfl)))) (q_item (q_rd (pv 2)) q_int (fun _ _ => rfl)))))))))
noncomputable abbrev s__law_rule_by : Stmt := top 22
theorem sc__law_rule_by : FnScope ["cell", "colours", "rest", "out", "k", "a", "b"] ["cell", "colours"] (defScope s__law_rule_by) := ⟨rfl, rfl, rfl, by decide +kernel, rfl, by decide +kernel, by decide +kernel⟩
theorem ok__law_rule_by {P : Program} {w : World} {K : PySem.W.Frag} {mg : Str → Option Value} {base : Heap} (T : Names mg K) (C__law_named : Cal P w K mg base 1 "_law_named" 2 F__law_named) {f : Addr} {fd : FuncData} (F : Fun K "_law_rule_by" "_law_rule_by" s__law_rule_by f fd) (hm : mg "_law_rule_by" = some (.ref f)) : Cal P w K mg base 2 "_law_rule_by" 2 F__law_rule_by := by
  refine ⟨f, fd, _, fn_ok F sc__law_rule_by fun cdv A outer s H E hr => ?_, F.binds (ps := ["cell", "colours"]) (fun _ _ _ _ _ _ us hl => match us, hl with | [_, _], _ => rfl), F.kp, hm⟩
  have nd := sc__law_rule_by.nd
  exact (qs_cons (qs_setC (i := 2) rfl nd rfl rfl (qi_range1 rfl T.range (qa_cons (q_mul (q_mul (q_mul (q_rd (pv 1)) (q_rd (pv 1))) (q_rd (pv 1))) (q_rd (pv 1))) qa_nil)) ⟨compOk_of (by kernel_rfl), fun _ _ _ _ _ => (qg_name (pg_name (i := 4) nd rfl (by first | exact Or.inl rfl | exact Or.inr rfl))), fun _ _ _ _ _ => qts_nil, fun _ _ _ _ _ => (q_rd (pv 4))⟩)
    (qs_cons (qs_if ((qt_eq hr.units) (q_mod (q_rd (pv 0)) q_int) q_int) (qs_one (qs_ret (q_if ((qt_eq hr.units) (q_rd (pv 1)) q_int) (q_comp rfl (qi_seq (q_fr (pv 2))) ⟨compOk_of (by kernel_rfl), fun _ _ _ _ _ => (qg_name (pg_name (i := 4) nd rfl (by first | exact Or.inl rfl | exact Or.inr rfl))), fun _ _ _ _ _ => qts_nil, fun _ _ _ _ _ => (q_callC C__law_named (hr.mono (by decide)) rfl (qa_cons (q_mod (q_div (q_rd (pv 0)) q_int) q_int) (qa_cons (q_rd (pv 4)) qa_nil)))⟩) (q_val (pv 2))))) qs_nil)
    (qs_cons (qs_set (i := 3) nd rfl (by first | exact Or.inl rfl | exact Or.inr rfl) (q_lst qa_nil))
    (qs_cons (qs_if ((qt_eq hr.units) (q_mod (q_rd (pv 0)) q_int) q_int) (qs_cons (qs_set (i := 3) nd rfl (by first | exact Or.inl rfl | exact Or.inr rfl) (q_callTy call_list_of sr_list rfl T.list PyProof.Rows.boot_list (qa_cons (q_rd (pv 2)) qa_nil)))
    (qs_cons (qs_for PassesOwn.never rfl (qi_range1 rfl T.range (qa_cons q_int qa_nil)) (qg_name (pg_name (i := 4) nd rfl (by first | exact Or.inl rfl | exact Or.inr rfl))) (qs_cons (qs_set (i := 0) nd rfl (by first | exact Or.inl rfl | exact Or.inr rfl) (q_mod (q_add (q_mul (q_rd (pv 0)) q_int) q_int) q_int))
    (qs_cons (qs_set (i := 5) nd rfl (by first | exact Or.inl rfl | exact Or.inr rfl) (q_mod (q_div (q_rd (pv 0)) q_int) (q_callB call_len_seq sr_len rfl T.len PySem.boot_len (qa_cons (q_rd (pv 3)) qa_nil))))
    (qs_cons (qs_set (i := 6) nd rfl (by first | exact Or.inl rfl | exact Or.inr rfl) (q_mod (q_div (q_div (q_rd (pv 0)) q_int) (q_callB call_len_seq sr_len rfl T.len PySem.boot_len (qa_cons (q_rd (pv 3)) qa_nil))) (q_callB call_len_seq sr_len rfl T.len PySem.boot_len (qa_cons (q_rd (pv 3)) qa_nil))))
    (qs_one (qs_asg (q_tup (qa_cons (q_item (q_rd (pv 3)) (q_rd (pv 6)) (fun _ _ => rfl)) (qa_cons (q_item (q_rd (pv 3)) (q_rd (pv 5)) (fun _ _ => rfl)) qa_nil))) (qg_tup rfl (qgs_cons (qg_ix (pv 3) (q_rd (pv 5))) (qgs_cons (qg_ix (pv 3) (q_rd (pv 6))) qgs_nil)))))))))
    (qs_one (qs_ret (q_val (pv 3)))))) qs_nil)
    (qs_cons (qs_while 100 PassesOwn.never (qt_gt (q_callB call_len_seq sr_len rfl T.len PySem.boot_len (qa_cons (q_rd (pv 2)) qa_nil)) q_int) (qs_cons (qs_set (i := 0) nd rfl (by first | exact Or.inl rfl | exact Or.inr rfl) (q_mod (q_add (q_mul (q_rd (pv 0)) q_int) q_int) q_int))
    (qs_one (qs_expr (q_meth PySem.F.plainAttrs_list PySem.F.slot_list_append PySem.F.type_list_append mt_append mr_append (pv 3) (qa_cons (q_meth PySem.F.plainAttrs_list PySem.F.slot_list_pop PySem.F.type_list_pop mt_popAt mr_popAt (pv 2) (qa_cons (q_mod (q_div (q_rd (pv 0)) q_int) (q_callB call_len_seq sr_len rfl T.len PySem.boot_len (qa_cons (q_rd (pv 2)) qa_nil))) qa_nil)) qa_nil))))))
    (qs_one (qs_ret (q_val (pv 3)))))))))
noncomputable abbrev s_law : Stmt := top 28
noncomputable def b0_law : MS := (sSeq (sIf (mNot (mTru (mOpF (ofLen 3 F__law_refused) (mCons (mC (.int 0)) (mCons (mOpF (ofLen 3 F__law_bad_board) (mCons (mRd 5) (mCons (mRd 1) (mCons (mOpF (ofLen 2 F__law_cell_at) (mCons (mRd 0) (mCons (mOpF gAdd (mCons (mC (.int 5)) (mCons (mRd 6) mNil))) mNil))) mNil)))) (mCons (mRd 1) mNil)))))) (sRet (mC (.bl false))) sNil)
    (sIf (mNot (mTru (mOpF (ofLen 3 F__law_refused) (mCons (mC (.int 1)) (mCons (mOpF (ofLen 3 F__law_bad_rule) (mCons (mRd 2) (mCons (mRd 1) (mCons (mOpF (ofLen 2 F__law_cell_at) (mCons (mRd 0) (mCons (mOpF gAdd (mCons (mC (.int 9)) (mCons (mRd 6) mNil))) mNil))) mNil)))) (mCons (mRd 1) mNil)))))) (sRet (mC (.bl false))) sNil))
noncomputable def l0_law : MS := sFor (setN 6) (mRng1 (mCons (mC (.int 4)) mNil)) b0_law
noncomputable def c0_law : M R := mComp [8] (setN 8) (mItS (mFr 7)) mYes (mOpF gIxS (mCons (mC (.str (Str.ofString "012"))) (mCons (mRd 8) mNil)))
noncomputable def c1_law : M R := mComp [7] (setN 7) (mItS (mFr 4)) mYes (mOpF (gJoin (Str.ofString "")) (mCons c0_law mNil))
noncomputable def m_law : MS := (sSeq (sSet 1 (mOpF gAdd (mCons (mC (.int 2)) (mCons (mOpF gMod (mCons (mOpF (ofLen 2 F__law_cell_at) (mCons (mRd 0) (mCons (mC (.int 0)) mNil))) (mCons (mC (.int 2)) mNil))) mNil))))
    (sSeq (sSet 2 (mOpF (ofLen 2 F__law_rule_by) (mCons (mOpF (ofLen 2 F__law_cell_at) (mCons (mRd 0) (mCons (mC (.int 1)) mNil))) (mCons (mRd 1) mNil))))
    (sSeq (sSet 3 (mOpF gAdd (mCons (mC (.int 2)) (mCons (mOpF gMul (mCons (mC (.int 2)) (mCons (mOpF gMod (mCons (mOpF (ofLen 2 F__law_cell_at) (mCons (mRd 0) (mCons (mC (.int 2)) mNil))) (mCons (mC (.int 3)) mNil))) mNil))) mNil))))
    (sSeq (sSet 4 (mOpF (ofLen 4 F__law_board_by) (mCons (mOpF (ofLen 2 F__law_cell_at) (mCons (mRd 0) (mCons (mC (.int 4)) mNil))) (mCons (mRd 3) (mCons (mOpF gAdd (mCons (mC (.int 2)) (mCons (mOpF gMul (mCons (mC (.int 2)) (mCons (mOpF gMod (mCons (mOpF (ofLen 2 F__law_cell_at) (mCons (mRd 0) (mCons (mC (.int 3)) mNil))) (mCons (mC (.int 3)) mNil))) mNil))) mNil))) (mCons (mRd 1) mNil))))))
    (sSeq (sSet 5 c1_law)
    (sSeq l0_law
    (sRet (mC (.bl true)))))))))
noncomputable def F_law : List Slot → Option Slot := runF 1 9 m_law
theorem sc_law : FnScope ["script", "colours", "rule", "width", "board", "rows", "k", "row", "colour"] ["script"] (defScope s_law) := ⟨rfl, rfl, rfl, by decide +kernel, rfl, by decide +kernel, by decide +kernel⟩
theorem fn_law {P : Program} {w : World} {K : PySem.W.Frag} {mg : Str → Option Value} {base : Heap} (T : Names mg K) (C__law_refused : Cal P w K mg base 4 "_law_refused" 3 F__law_refused) (C__law_bad_rule : Cal P w K mg base 1 "_law_bad_rule" 3 F__law_bad_rule) (C__law_cell_at : Cal P w K mg base 1 "_law_cell_at" 2 F__law_cell_at) (C__law_bad_board : Cal P w K mg base 1 "_law_bad_board" 3 F__law_bad_board) (C__law_board_by : Cal P w K mg base 1 "_law_board_by" 4 F__law_board_by) (C__law_rule_by : Cal P w K mg base 2 "_law_rule_by" 2 F__law_rule_by) {f : Addr} {fd : FuncData} (F : Fun K "law" "law" s_law f fd) : FnOk P w K mg base CX0 5 f fd ["script"] (spF K 1 F_law) := by
  refine fn_ok F sc_law fun cdv A outer s H E hr => ?_
  have nd := sc_law.nd
  exact (qs_cons (qs_set (i := 1) nd rfl (by first | exact Or.inl rfl | exact Or.inr rfl) (q_add q_int (q_mod (q_callC C__law_cell_at (hr.mono (by decide)) rfl (qa_cons (q_rd (pv 0)) (qa_cons q_int qa_nil))) q_int)))
    (qs_cons (qs_set (i := 2) nd rfl (by first | exact Or.inl rfl | exact Or.inr rfl) (q_callC C__law_rule_by (hr.mono (by decide)) rfl (qa_cons (q_callC C__law_cell_at (hr.mono (by decide)) rfl (qa_cons (q_rd (pv 0)) (qa_cons q_int qa_nil))) (qa_cons (q_rd (pv 1)) qa_nil))))
    (qs_cons (qs_set (i := 3) nd rfl (by first | exact Or.inl rfl | exact Or.inr rfl) (q_add q_int (q_mul q_int (q_mod (q_callC C__law_cell_at (hr.mono (by decide)) rfl (qa_cons (q_rd (pv 0)) (qa_cons q_int qa_nil))) q_int))))
    (qs_cons (qs_set (i := 4) nd rfl (by first | exact Or.inl rfl | exact Or.inr rfl) (q_callC C__law_board_by (hr.mono (by decide)) rfl (qa_cons (q_callC C__law_cell_at (hr.mono (by decide)) rfl (qa_cons (q_rd (pv 0)) (qa_cons q_int qa_nil))) (qa_cons (q_rd (pv 3)) (qa_cons (q_add q_int (q_mul q_int (q_mod (q_callC C__law_cell_at (hr.mono (by decide)) rfl (qa_cons (q_rd (pv 0)) (qa_cons q_int qa_nil))) q_int))) (qa_cons (q_rd (pv 1)) qa_nil))))))
    (qs_cons (qs_setC (i := 5) rfl nd rfl rfl (qi_seq (q_fr (pv 4))) ⟨compOk_of (by kernel_rfl), fun _ _ _ _ _ => (qg_name (pg_name (i := 7) nd rfl (by first | exact Or.inl rfl | exact Or.inr rfl))), fun _ _ _ _ _ => qts_nil, fun _ _ _ _ _ => (q_join (q_comp rfl (qi_seq (q_fr (pv 7))) ⟨compOk_of (by kernel_rfl), fun _ _ _ _ _ => (qg_name (pg_name (i := 8) nd rfl (by first | exact Or.inl rfl | exact Or.inr rfl))), fun _ _ _ _ _ => qts_nil, fun _ _ _ _ _ => (q_ixS q_str (q_rd (pv 8)) (fun _ _ => rfl))⟩))⟩)
    (qs_cons (qs_for PassesOwn.never rfl (qi_range1 rfl T.range (qa_cons q_int qa_nil)) (qg_name (pg_name (i := 6) nd rfl (by first | exact Or.inl rfl | exact Or.inr rfl))) (qs_cons (qs_if (qt_not (qt_val (q_callC C__law_refused (hr.mono (by decide)) rfl (qa_cons q_int (qa_cons (q_callC C__law_bad_board (hr.mono (by decide)) rfl (qa_cons (q_rd (pv 5)) (qa_cons (q_rd (pv 1)) (qa_cons (q_callC C__law_cell_at (hr.mono (by decide)) rfl (qa_cons (q_rd (pv 0)) (qa_cons (q_add q_int (q_rd (pv 6))) qa_nil))) qa_nil)))) (qa_cons (q_rd (pv 1)) qa_nil)))))) (qs_one (qs_ret q_bl)) qs_nil)
    (qs_one (qs_if (qt_not (qt_val (q_callC C__law_refused (hr.mono (by decide)) rfl (qa_cons q_int (qa_cons (q_callC C__law_bad_rule (hr.mono (by decide)) rfl (qa_cons (q_rd (pv 2)) (qa_cons (q_rd (pv 1)) (qa_cons (q_callC C__law_cell_at (hr.mono (by decide)) rfl (qa_cons (q_rd (pv 0)) (qa_cons (q_add q_int (q_rd (pv 6))) qa_nil))) qa_nil)))) (qa_cons (q_rd (pv 1)) qa_nil)))))) (qs_one (qs_ret q_bl)) qs_nil))))
    (qs_one (qs_ret q_bl))))))))
theorem all_mk {l : PySem.W.OpenLaw} {w : World} {K : PySem.W.Frag} {h : Heap} {mg : Str → Option Value} {fa f0 f1 f2 f3 f4 f5 f6 f7 f8 f9 f10 f11 f12 f13 f14 f15 x_NoBoard x_BadNote x_NotBack x_NoRule x_BlockError : Addr} {d_FIRST_LINES : Addr} {hi0_0 hi0_1 : Int} {ti0_0 ui0_0 ti0_1 ui0_1 : Tok} {ei0 : Nat} {t_LEAST_SIZE t_GREATEST_SIZE : Tok} (X : K.In h) (G : h.Ns mainGlobals mg) (hfa : mg "law" = some (.ref fa)) {od0 an0 od1 an1 od2 an2 od3 an3 od4 an4 od5 an5 od6 an6 od7 an7 od8 an8 od9 an9 od10 an10 od11 an11 od12 an12 od13 an13 od14 an14 od15 an15 : Option Addr} {sl0 sl1 sl2 sl3 sl4 sl5 sl6 sl7 sl8 sl9 sl10 sl11 sl12 sl13 sl14 sl15 : Array (Option Value)} {oc0 kV0 dc0 pm0 cd0 ct0 oc1 kV1 dc1 pm1 cd1 ct1 oc2 kV2 dc2 pm2 cd2 ct2 oc3 kV3 dc3 pm3 cd3 ct3 oc4 kV4 dc4 pm4 cd4 ct4 oc5 kV5 dc5 pm5 cd5 ct5 oc6 kV6 dc6 pm6 cd6 ct6 oc7 kV7 dc7 pm7 cd7 ct7 oc8 kV8 dc8 pm8 cd8 ct8 oc9 kV9 dc9 pm9 cd9 ct9 oc10 kV10 dc10 pm10 cd10 ct10 oc11 kV11 dc11 pm11 cd11 ct11 oc12 kV12 dc12 pm12 cd12 ct12 oc13 kV13 dc13 pm13 cd13 ct13 oc14 kV14 dc14 pm14 cd14 ct14 oc15 kV15 dc15 pm15 cd15 ct15 : Value}
    (a0 : PySem.W.nsIn K mainGlobals "is_size" = some (some (.ref f0))) (l0 : K.lookup f0 = some ⟨oc0, od0, .func (PySem.W.fnOf "is_size" "is_size" (defArgs s_is_size) (defBody s_is_size) (defScope s_is_size) .none kV0 dc0 pm0 an0 cd0 ct0), sl0⟩) (c0 : PySem.W.codeIn K cd0 "is_size" = true) (k0 : PySem.W.keepIn K (.ref f0) = true)
    (a1 : PySem.W.nsIn K mainGlobals "looked_board" = some (some (.ref f1))) (l1 : K.lookup f1 = some ⟨oc1, od1, .func (PySem.W.fnOf "looked_board" "looked_board" (defArgs s_looked_board) (defBody s_looked_board) (defScope s_looked_board) .none kV1 dc1 pm1 an1 cd1 ct1), sl1⟩) (c1 : PySem.W.codeIn K cd1 "looked_board" = true) (k1 : PySem.W.keepIn K (.ref f1) = true)
    (a2 : PySem.W.nsIn K mainGlobals "lines_of" = some (some (.ref f2))) (l2 : K.lookup f2 = some ⟨oc2, od2, .func (PySem.W.fnOf "lines_of" "lines_of" (defArgs s_lines_of) (defBody s_lines_of) (defScope s_lines_of) .none kV2 dc2 pm2 an2 cd2 ct2), sl2⟩) (c2 : PySem.W.codeIn K cd2 "lines_of" = true) (k2 : PySem.W.keepIn K (.ref f2) = true)
    (a3 : PySem.W.nsIn K mainGlobals "numbers_by_word" = some (some (.ref f3))) (l3 : K.lookup f3 = some ⟨oc3, od3, .func (PySem.W.fnOf "numbers_by_word" "numbers_by_word" (defArgs s_numbers_by_word) (defBody s_numbers_by_word) (defScope s_numbers_by_word) .none kV3 dc3 pm3 an3 cd3 ct3), sl3⟩) (c3 : PySem.W.codeIn K cd3 "numbers_by_word" = true) (k3 : PySem.W.keepIn K (.ref f3) = true)
    (a4 : PySem.W.nsIn K mainGlobals "numbers_read" = some (some (.ref f4))) (l4 : K.lookup f4 = some ⟨oc4, od4, .func (PySem.W.fnOf "numbers_read" "numbers_read" (defArgs s_numbers_read) (defBody s_numbers_read) (defScope s_numbers_read) .none kV4 dc4 pm4 an4 cd4 ct4), sl4⟩) (c4 : PySem.W.codeIn K cd4 "numbers_read" = true) (k4 : PySem.W.keepIn K (.ref f4) = true)
    (a5 : PySem.W.nsIn K mainGlobals "read_board" = some (some (.ref f5))) (l5 : K.lookup f5 = some ⟨oc5, od5, .func (PySem.W.fnOf "read_board" "read_board" (defArgs s_read_board) (defBody s_read_board) (defScope s_read_board) .none kV5 dc5 pm5 an5 cd5 ct5), sl5⟩) (c5 : PySem.W.codeIn K cd5 "read_board" = true) (k5 : PySem.W.keepIn K (.ref f5) = true)
    (a6 : PySem.W.nsIn K mainGlobals "looked" = some (some (.ref f6))) (l6 : K.lookup f6 = some ⟨oc6, od6, .func (PySem.W.fnOf "looked" "looked" (defArgs s_looked) (defBody s_looked) (defScope s_looked) .none kV6 dc6 pm6 an6 cd6 ct6), sl6⟩) (c6 : PySem.W.codeIn K cd6 "looked" = true) (k6 : PySem.W.keepIn K (.ref f6) = true)
    (a7 : PySem.W.nsIn K mainGlobals "read_rule" = some (some (.ref f7))) (l7 : K.lookup f7 = some ⟨oc7, od7, .func (PySem.W.fnOf "read_rule" "read_rule" (defArgs s_read_rule) (defBody s_read_rule) (defScope s_read_rule) .none kV7 dc7 pm7 an7 cd7 ct7), sl7⟩) (c7 : PySem.W.codeIn K cd7 "read_rule" = true) (k7 : PySem.W.keepIn K (.ref f7) = true)
    (a8 : PySem.W.nsIn K mainGlobals "_law_refused" = some (some (.ref f8))) (l8 : K.lookup f8 = some ⟨oc8, od8, .func (PySem.W.fnOf "_law_refused" "_law_refused" (defArgs s__law_refused) (defBody s__law_refused) (defScope s__law_refused) .none kV8 dc8 pm8 an8 cd8 ct8), sl8⟩) (c8 : PySem.W.codeIn K cd8 "_law_refused" = true) (k8 : PySem.W.keepIn K (.ref f8) = true)
    (a9 : PySem.W.nsIn K mainGlobals "_law_bad_rule" = some (some (.ref f9))) (l9 : K.lookup f9 = some ⟨oc9, od9, .func (PySem.W.fnOf "_law_bad_rule" "_law_bad_rule" (defArgs s__law_bad_rule) (defBody s__law_bad_rule) (defScope s__law_bad_rule) .none kV9 dc9 pm9 an9 cd9 ct9), sl9⟩) (c9 : PySem.W.codeIn K cd9 "_law_bad_rule" = true) (k9 : PySem.W.keepIn K (.ref f9) = true)
    (a10 : PySem.W.nsIn K mainGlobals "_law_cell_at" = some (some (.ref f10))) (l10 : K.lookup f10 = some ⟨oc10, od10, .func (PySem.W.fnOf "_law_cell_at" "_law_cell_at" (defArgs s__law_cell_at) (defBody s__law_cell_at) (defScope s__law_cell_at) .none kV10 dc10 pm10 an10 cd10 ct10), sl10⟩) (c10 : PySem.W.codeIn K cd10 "_law_cell_at" = true) (k10 : PySem.W.keepIn K (.ref f10) = true)
    (a11 : PySem.W.nsIn K mainGlobals "_law_bad_board" = some (some (.ref f11))) (l11 : K.lookup f11 = some ⟨oc11, od11, .func (PySem.W.fnOf "_law_bad_board" "_law_bad_board" (defArgs s__law_bad_board) (defBody s__law_bad_board) (defScope s__law_bad_board) .none kV11 dc11 pm11 an11 cd11 ct11), sl11⟩) (c11 : PySem.W.codeIn K cd11 "_law_bad_board" = true) (k11 : PySem.W.keepIn K (.ref f11) = true)
    (a12 : PySem.W.nsIn K mainGlobals "_law_board_by" = some (some (.ref f12))) (l12 : K.lookup f12 = some ⟨oc12, od12, .func (PySem.W.fnOf "_law_board_by" "_law_board_by" (defArgs s__law_board_by) (defBody s__law_board_by) (defScope s__law_board_by) .none kV12 dc12 pm12 an12 cd12 ct12), sl12⟩) (c12 : PySem.W.codeIn K cd12 "_law_board_by" = true) (k12 : PySem.W.keepIn K (.ref f12) = true)
    (a13 : PySem.W.nsIn K mainGlobals "_law_named" = some (some (.ref f13))) (l13 : K.lookup f13 = some ⟨oc13, od13, .func (PySem.W.fnOf "_law_named" "_law_named" (defArgs s__law_named) (defBody s__law_named) (defScope s__law_named) .none kV13 dc13 pm13 an13 cd13 ct13), sl13⟩) (c13 : PySem.W.codeIn K cd13 "_law_named" = true) (k13 : PySem.W.keepIn K (.ref f13) = true)
    (a14 : PySem.W.nsIn K mainGlobals "_law_rule_by" = some (some (.ref f14))) (l14 : K.lookup f14 = some ⟨oc14, od14, .func (PySem.W.fnOf "_law_rule_by" "_law_rule_by" (defArgs s__law_rule_by) (defBody s__law_rule_by) (defScope s__law_rule_by) .none kV14 dc14 pm14 an14 cd14 ct14), sl14⟩) (c14 : PySem.W.codeIn K cd14 "_law_rule_by" = true) (k14 : PySem.W.keepIn K (.ref f14) = true)
    (a15 : PySem.W.nsIn K mainGlobals "law" = some (some (.ref f15))) (l15 : K.lookup f15 = some ⟨oc15, od15, .func (PySem.W.fnOf "law" "law" (defArgs s_law) (defBody s_law) (defScope s_law) .none kV15 dc15 pm15 an15 cd15 ct15), sl15⟩) (c15 : PySem.W.codeIn K cd15 "law" = true) (k15 : PySem.W.keepIn K (.ref f15) = true)
    (ax0 : PySem.W.nsIn K mainGlobals "NoBoard" = some (some (.ref x_NoBoard))) (ex0 : PySem.W.excIn K x_NoBoard vBases "ValueError.__new__" = true) (ax1 : PySem.W.nsIn K mainGlobals "BadNote" = some (some (.ref x_BadNote))) (ex1 : PySem.W.excIn K x_BadNote vBases "ValueError.__new__" = true) (ax2 : PySem.W.nsIn K mainGlobals "NotBack" = some (some (.ref x_NotBack))) (ex2 : PySem.W.excIn K x_NotBack vBases "ValueError.__new__" = true) (ax3 : PySem.W.nsIn K mainGlobals "NoRule" = some (some (.ref x_NoRule))) (ex3 : PySem.W.excIn K x_NoRule vBases "ValueError.__new__" = true) (ax4 : PySem.W.nsIn K mainGlobals "BlockError" = some (some (.ref x_BlockError))) (ex4 : PySem.W.excIn K x_BlockError vBases "ValueError.__new__" = true)
    (em0 : PySem.W.exmOne K (.ref x_BadNote) (.ref x_BlockError) = some true)
    (en0 : PySem.W.exmOne K (.ref x_NoBoard) (.ref x_NoBoard) = some true) (en1 : PySem.W.exmOne K (.ref x_NotBack) (.ref x_NoRule) = some false) (en2 : PySem.W.exmOne K (.ref x_NotBack) (.ref x_NotBack) = some true) (en3 : PySem.W.exmOne K (.ref x_NoRule) (.ref x_NoRule) = some true) (en4 : PySem.W.exmOne K (.ref x_NoRule) (.ref x_NotBack) = some false)
    (ai0 : PySem.W.nsIn K mainGlobals "FIRST_LINES" = some (some (.ref d_FIRST_LINES))) (li0 : K.lookup d_FIRST_LINES = some ⟨.type "dict", none, .dict #[{ hash := hi0_0, key := .str "rule 2" ti0_0, val := .int 2 ui0_0 }, { hash := hi0_1, key := .str "rule 3" ti0_1, val := .int 3 ui0_1 }] ei0, #[]⟩) (nz0 : (d_FIRST_LINES == sysModules) = false)
    (cn0 : PySem.W.nsIn K mainGlobals "LEAST_SIZE" = some (some (.int 2 t_LEAST_SIZE)))
    (cn1 : PySem.W.nsIn K mainGlobals "GREATEST_SIZE" = some (some (.int 16 t_GREATEST_SIZE)))
    (ka0 : PySem.W.specialIn K (.builtin "object.__class__") "__get__" = some (some (.builtin "getset_descriptor.__get__"))) (ka1 : PySem.W.takesIn K (.builtin "object.__class__") = some true)
    (kx0_0 : PySem.W.isClsIn K x_BadNote = true) (kx0_1 : PySem.W.findIn K (.ref x_BadNote) "__getattribute__" = some (some (.builtin "BaseException.__getattribute__"))) (kx0_2 : PySem.W.findIn K (.ref x_BadNote) "__getattr__" = some none) (kx0_3 : PySem.W.findIn K (.ref x_BadNote) "__class__" = some (some (.builtin "object.__class__"))) (kx0_4 : PySem.W.mroIn K x_BadNote (.type "object") = some true) (kx0_5 : PySem.W.mroIn K x_BadNote (.type "BaseException") = some true)
    (ki0 : PySem.W.kitOne K (.ref x_BadNote) (.ref x_NoBoard) = some false) (ki1 : PySem.W.kitOne K (.ref x_BadNote) (.type "ValueError") = some true) (ki2 : PySem.W.kitOne K (.ref x_BadNote) (.ref x_BadNote) = some true) (ki3 : PySem.W.kitOne K (.ref x_BadNote) (.ref x_NotBack) = some false) (ki4 : PySem.W.kitOne K (.ref x_BadNote) (.ref x_NoRule) = some false)
    (kv0 : PySem.W.nsIn K mainGlobals "ValueError" = some none)
    (z0 : PySem.W.nsIn K mainGlobals "len" = some none) (z1 : PySem.W.nsIn K mainGlobals "range" = some none) (z2 : PySem.W.nsIn K mainGlobals "tuple" = some none) (z3 : PySem.W.nsIn K mainGlobals "list" = some none) (z4 : PySem.W.nsIn K mainGlobals "int" = some none) (z5 : PySem.W.nsIn K mainGlobals "sum" = some none) (z6 : PySem.W.nsIn K mainGlobals "enumerate" = some none) (z7 : PySem.W.nsIn K mainGlobals "isinstance" = some none) (z8 : PySem.W.nsIn K mainGlobals "bool" = some none) (z9 : PySem.W.nsIn K mainGlobals "reversed" = some none) (z10 : PySem.W.nsIn K mainGlobals "min" = some none) (z11 : PySem.W.nsIn K mainGlobals "max" = some none) (z12 : PySem.W.nsIn K mainGlobals "str" = some none) (z13 : PySem.W.nsIn K mainGlobals "sorted" = some none) (z14 : PySem.W.nsIn K mainGlobals "set" = some none) :
    ∃ fd : FuncData, (∀ (s : Shared) (v : Value), BindsTo s fd ⟨[v], []⟩ [("script", v)]) ∧ ∀ base : Heap, K.In base → base.Ns mainGlobals mg → FnOk l.prog w K mg base CX0 5 fa fd ["script"] (spF K 1 F_law) := by
  have e := hfa.symm.trans (PySem.W.mg_of X G a15)
  cases e
  have T : Names mg K := Names.mk' (PySem.W.mg_none_of X G z0) (PySem.W.mg_none_of X G z1) (PySem.W.mg_none_of X G z2) (PySem.W.mg_none_of X G z3) (PySem.W.mg_none_of X G z4) (PySem.W.mg_none_of X G z5) (PySem.W.mg_none_of X G z6) (PySem.W.mg_none_of X G z7) (PySem.W.mg_none_of X G z8) (PySem.W.mg_none_of X G z9) (PySem.W.mg_none_of X G z10) (PySem.W.mg_none_of X G z11) (PySem.W.mg_none_of X G z12) (PySem.W.mg_none_of X G z13) (PySem.W.mg_none_of X G z14)
  refine ⟨PySem.W.fnOf "law" "law" (defArgs s_law) (defBody s_law) (defScope s_law) .none kV15 dc15 pm15 an15 cd15 ct15, fun s v => .of_eq rfl, fun base _ _ => ?_⟩
  have O_NoBoard : OwnX K mg "NoBoard" x_NoBoard := ⟨PySem.W.mg_of X G ax0, ex0⟩
  have O_BadNote : OwnX K mg "BadNote" x_BadNote := ⟨PySem.W.mg_of X G ax1, ex1⟩
  have O_NotBack : OwnX K mg "NotBack" x_NotBack := ⟨PySem.W.mg_of X G ax2, ex2⟩
  have O_NoRule : OwnX K mg "NoRule" x_NoRule := ⟨PySem.W.mg_of X G ax3, ex3⟩
  have O_BlockError : OwnX K mg "BlockError" x_BlockError := ⟨PySem.W.mg_of X G ax4, ex4⟩
  have e_BadNote_BlockError := em0
  have n_NoBoard_NoBoard := en0
  have n_NotBack_NoRule := en1
  have n_NotBack_NotBack := en2
  have n_NoRule_NoRule := en3
  have n_NoRule_NotBack := en4
  have TI_FIRST_LINES : TabI K d_FIRST_LINES [("rule 2", 2), ("rule 3", 3)] := ⟨nz0, _, _, _, li0, ⟨rfl, rfl, rfl⟩, rfl, (PyProof.Rows.KTD.Rows.cons rfl ⟨_, rfl⟩ (PyProof.Rows.KTD.Rows.cons rfl ⟨_, rfl⟩ PyProof.Rows.KTD.Rows.nil))⟩
  have G_FIRST_LINES : mg "FIRST_LINES" = some (.ref d_FIRST_LINES) := PySem.W.mg_of X G ai0
  have V_LEAST_SIZE : mg "LEAST_SIZE" = some (.int 2 t_LEAST_SIZE) := PySem.W.mg_of X G cn0
  have V_GREATEST_SIZE : mg "GREATEST_SIZE" = some (.int 16 t_GREATEST_SIZE) := PySem.W.mg_of X G cn1
  have K_BadNote : ExcKit K x_BadNote := ⟨kx0_0, kx0_1, kx0_2, kx0_3, ka0, ka1, kx0_4, kx0_5⟩
  have V_ValueError : mg "ValueError" = none := PySem.W.mg_none_of X G kv0
  have i_BadNote_NoBoard := ki0
  have i_BadNote_ValueError := ki1
  have i_BadNote_BadNote := ki2
  have i_BadNote_NotBack := ki3
  have i_BadNote_NoRule := ki4
  have C_is_size : Cal l.prog w K mg base 1 "is_size" 1 F_is_size := ok_is_size T V_LEAST_SIZE V_GREATEST_SIZE  (fun_mk (st := s_is_size) l0 c0 k0) (PySem.W.mg_of X G a0)
  have C_looked_board : CalZ l.prog w K mg base 2 "looked_board" 2 FX_looked_board := ok_looked_board T O_NoBoard C_is_size (fun_mk (st := s_looked_board) l1 c1 k1) (PySem.W.mg_of X G a1)
  have C_lines_of : CalX l.prog w K mg base 1 "lines_of" 1 FX_lines_of := ok_lines_of T O_BadNote  (fun_mk (st := s_lines_of) l2 c2 k2) (PySem.W.mg_of X G a2)
  have C_numbers_by_word : Cal l.prog w K mg base 1 "numbers_by_word" 1 F_numbers_by_word := ok_numbers_by_word T   (fun_mk (st := s_numbers_by_word) l3 c3 k3) (PySem.W.mg_of X G a3)
  have C_numbers_read : CalX l.prog w K mg base 2 "numbers_read" 2 FX_numbers_read := ok_numbers_read T O_BadNote C_numbers_by_word (fun_mk (st := s_numbers_read) l4 c4 k4) (PySem.W.mg_of X G a4)
  have C_read_board : CalX l.prog w K mg base 3 "read_board" 2 FX_read_board := ok_read_board T O_BadNote O_NoBoard n_NoBoard_NoBoard C_looked_board C_lines_of C_numbers_read (fun_mk (st := s_read_board) l5 c5 k5) (PySem.W.mg_of X G a5)
  have C_looked : CalZ l.prog w K mg base 1 "looked" 2 FX_looked := ok_looked T O_NotBack O_NoRule  (fun_mk (st := s_looked) l6 c6 k6) (PySem.W.mg_of X G a6)
  have C_read_rule : CalX l.prog w K mg base 3 "read_rule" 1 FX_read_rule := ok_read_rule T TI_FIRST_LINES G_FIRST_LINES O_BadNote O_NotBack O_NoRule n_NotBack_NoRule n_NotBack_NotBack n_NoRule_NoRule n_NoRule_NotBack C_looked C_numbers_read C_lines_of (fun_mk (st := s_read_rule) l7 c7 k7) (PySem.W.mg_of X G a7)
  have C__law_refused : Cal l.prog w K mg base 4 "_law_refused" 3 F__law_refused := ok__law_refused T O_BadNote O_BlockError.bound O_NoBoard.bound O_BadNote.bound O_NotBack.bound O_NoRule.bound e_BadNote_BlockError K_BadNote V_ValueError i_BadNote_NoBoard i_BadNote_ValueError i_BadNote_BadNote i_BadNote_NotBack i_BadNote_NoRule C_read_board C_read_rule (fun_mk (st := s__law_refused) l8 c8 k8) (PySem.W.mg_of X G a8)
  have C__law_bad_rule : Cal l.prog w K mg base 1 "_law_bad_rule" 3 F__law_bad_rule := ok__law_bad_rule T   (fun_mk (st := s__law_bad_rule) l9 c9 k9) (PySem.W.mg_of X G a9)
  have C__law_cell_at : Cal l.prog w K mg base 1 "_law_cell_at" 2 F__law_cell_at := ok__law_cell_at T   (fun_mk (st := s__law_cell_at) l10 c10 k10) (PySem.W.mg_of X G a10)
  have C__law_bad_board : Cal l.prog w K mg base 1 "_law_bad_board" 3 F__law_bad_board := ok__law_bad_board T   (fun_mk (st := s__law_bad_board) l11 c11 k11) (PySem.W.mg_of X G a11)
  have C__law_board_by : Cal l.prog w K mg base 1 "_law_board_by" 4 F__law_board_by := ok__law_board_by T   (fun_mk (st := s__law_board_by) l12 c12 k12) (PySem.W.mg_of X G a12)
  have C__law_named : Cal l.prog w K mg base 1 "_law_named" 2 F__law_named := ok__law_named T   (fun_mk (st := s__law_named) l13 c13 k13) (PySem.W.mg_of X G a13)
  have C__law_rule_by : Cal l.prog w K mg base 2 "_law_rule_by" 2 F__law_rule_by := ok__law_rule_by T  C__law_named (fun_mk (st := s__law_rule_by) l14 c14 k14) (PySem.W.mg_of X G a14)
  exact fn_law T  C__law_refused C__law_bad_rule C__law_cell_at C__law_bad_board C__law_board_by C__law_rule_by (fun_mk (st := s_law) l15 c15 k15)
end K17
namespace K17
open PySem L2 Mi Sh Tx
theorem col (x : Int) : Bd.Col (2 + x % 2) := by
  unfold Bd.Col
  omega
theorem snl : Str.ofString "\n" = nl := by decide +kernel
theorem ssp : Str.ofString " " = ⟨#[32]⟩ := by decide +kernel
theorem sem : Str.ofString "" = Str.empty := by decide +kernel
theorem sok {l : List Nat} (h : ∀ ch ∈ l, ch < 1114112) : PyData.strOk (Tx.mk l) = true := by
  unfold PyData.strOk Tx.mk
  simp only [List.all_toArray]
  rw [List.all_eq_true]
  intro x hx
  simpa using h x hx
theorem fold_len : ∀ (l acc : List Int), (l.foldl PyProof.Rows.step_dedup acc).length ≤ acc.length + l.length := by
  intro l
  induction l with
  | nil => intro acc; simp
  | cons a r ih =>
    intro acc
    rw [List.foldl_cons]
    refine Nat.le_trans (ih _) ?_
    unfold PyProof.Rows.step_dedup
    split <;> simp <;> omega
theorem fold_eq : ∀ (l acc : List Int), acc.Nodup → (l.foldl PyProof.Rows.step_dedup acc).length = acc.length + l.length → (acc ++ l).Nodup := by
  intro l
  induction l with
  | nil => intro acc h _; simpa using h
  | cons a r ih =>
    intro acc h e
    rw [List.foldl_cons] at e
    by_cases z : a ∈ acc
    · have hs : PyProof.Rows.step_dedup acc a = acc := by
        unfold PyProof.Rows.step_dedup
        simp [z]
      rw [hs] at e
      have := fold_len r acc
      rw [e, List.length_cons] at this
      omega
    · have hs : PyProof.Rows.step_dedup acc a = acc ++ [a] := by
        unfold PyProof.Rows.step_dedup
        simp [z]
      rw [hs] at e
      have hn : (acc ++ [a]).Nodup := by
        rw [List.nodup_append]
        refine ⟨h, by simp, fun x hx y hy => ?_⟩
        simp at hy
        subst hy
        intro q
        exact z (q ▸ hx)
      have := ih (acc ++ [a]) hn (by rw [e]; simp; omega)
      simpa using this
theorem unlike_dup {ns : List Int} (h : ¬ ns.Nodup) : unlike ns ≠ ns.length := by
  unfold unlike PyProof.Rows.firstMet
  have e : (List.range ns.length).map (fun i => ns.getD i 0) = ns := by
    refine List.ext_getElem? fun i => ?_
    by_cases hi : i < ns.length
    · rw [List.getElem?_map, List.getElem?_range hi, List.getElem?_eq_getElem hi]
      show some (ns.getD i 0) = _
      rw [Bd.getD_eq' hi]
    · rw [List.getElem?_eq_none (by simp; omega), List.getElem?_eq_none (by omega)]
  rw [e]
  intro q
  have := fold_eq ns [] (by simp) (by rw [q]; simp)
  exact h (by simpa using this)
theorem lows {bs : List Int} (h : bs ≠ []) : lowO bs = some (lowN bs) ∧ topO bs = some (topN bs) := by
  cases bs with
  | nil => exact absurd rfl h
  | cons a r => exact ⟨rfl, rfl⟩
theorem size_yes {n : Int} (h1 : 2 ≤ n) (h2 : n ≤ 16) (h3 : n % 2 = 0) : F_is_size [.val (.int n)] = some (.val (.bl true)) := by
  unfold F_is_size m_is_size
  walk_at "mi"
theorem size_no {n : Int} (h : ¬ (2 ≤ n ∧ n ≤ 16 ∧ n % 2 = 0)) : F_is_size [.val (.int n)] = some (.val (.bl false)) := by
  unfold F_is_size m_is_size
  by_cases h1 : 2 ≤ n
  · by_cases h2 : n ≤ 16
    · have h3 : ¬ n % 2 = 0 := fun z => h ⟨h1, h2, z⟩
      clear h
      walk_at "mi"
    · clear h
      walk_at "mi"
  · clear h
    walk_at "mi"
noncomputable def rD (r : List Int) : D := .tup (r.map D.int)
noncomputable def bT (rows : List (List Int)) : D := .tup (rows.map rD)
section
variable {s0 s2 s4 : Option Slot} {c : Int} {w : Nat} {r : List Int}
theorem body_ok (hw : 0 < w) (hl : r.length = w) (hg : ∀ z ∈ r, 0 ≤ z ∧ z < c) : xb0_looked_board [s0, some (.val (.int c)), s2, some (.val (.int w)), some (.val (rD r))] = some (.o (.nx [s0, some (.val (.int c)), s2, some (.val (.int w)), some (.val (rD r))])) := by
  have hne : r ≠ [] := fun z => by rw [z] at hl; simp at hl; omega
  obtain ⟨elo, ehi⟩ := lows hne
  have c1 : ¬ lowN r < 0 := by have := hg _ (low_spec hne).1; omega
  have c2 : ¬ c ≤ topN r := by have := hg _ (top_spec hne).1; omega
  have io := intsOf_map r
  unfold xb0_looked_board rD
  clear hne hg hw
  generalize lowN r = lw at *
  generalize topN r = tp at *
  walk_at "mi"
theorem body_len (hl : r.length ≠ w) : xb0_looked_board [s0, some (.val (.int c)), s2, some (.val (.int w)), some (.val (rD r))] = some (.ex "NoBoard") := by
  have hl' : ¬ ((r.length : Int) = (w : Int)) := by omega
  unfold xb0_looked_board rD
  walk_at "mi"
theorem body_out (hw : 0 < w) (hl : r.length = w) (hg : ∃ z ∈ r, z < 0 ∨ c ≤ z) : xb0_looked_board [s0, some (.val (.int c)), s2, some (.val (.int w)), some (.val (rD r))] = some (.ex "NoBoard") := by
  have hne : r ≠ [] := fun z => by rw [z] at hl; simp at hl; omega
  obtain ⟨elo, ehi⟩ := lows hne
  have io := intsOf_map r
  have h : lowN r < 0 ∨ c ≤ topN r := by
    obtain ⟨z, hz, q⟩ := hg
    have := (low_spec hne).2 z hz
    have := (top_spec hne).2 z hz
    omega
  unfold xb0_looked_board rD
  clear hne hg hw
  generalize lowN r = lw at *
  generalize topN r = tp at *
  by_cases z : lw < 0
  · clear h
    walk_at "mi"
  · have h := h.resolve_left z
    walk_at "mi"
noncomputable def fine (c : Int) (w : Nat) (r : List Int) : Prop := r.length = w ∧ ∀ z ∈ r, 0 ≤ z ∧ z < c
theorem rows_bad (hw : 0 < w) : ∀ {rows : List (List Int)} {s4 : Option Slot}, (∃ r ∈ rows, ¬ fine c w r) → xforL (setN 4) xb0_looked_board ((rows.map rD).map Slot.val) [s0, some (.val (.int c)), s2, some (.val (.int w)), s4] = some (.ex "NoBoard") := by
  intro rows
  induction rows with
  | nil => rintro s4 ⟨r, hr, _⟩; simp at hr
  | cons r rest ih =>
    intro s4 h
    have e0 : setN 4 (.val (rD r)) [s0, some (.val (.int c)), s2, some (.val (.int w)), s4] = some [s0, some (.val (.int c)), s2, some (.val (.int w)), some (.val (rD r))] := rfl
    by_cases hr : fine c w r
    · simp only [List.map_cons, xforL, e0, Option.bind_some, body_ok hw hr.1 hr.2]
      refine ih (s4 := some (.val (rD r))) ?_
      obtain ⟨r', h1, h2⟩ := h
      rcases List.mem_cons.mp h1 with rfl | h1
      · exact absurd hr h2
      · exact ⟨r', h1, h2⟩
    · by_cases hl : r.length = w
      · have hx : ∃ z ∈ r, z < 0 ∨ c ≤ z := by
          refine Classical.byContradiction fun q => hr ⟨hl, fun z hz => ?_⟩
          refine Classical.byContradiction fun q2 => q ⟨z, hz, ?_⟩
          omega
        simp only [List.map_cons, xforL, e0, Option.bind_some, body_out hw hl hx]
      · simp only [List.map_cons, xforL, e0, Option.bind_some, body_len hl]
end
theorem at0 {α : Type} {a : α} {l : List α} : atI (a :: l) 0 = some a := by
  have := atI_nat (xs := a :: l) (j := 0) (v := a) rfl
  simpa using this
noncomputable def Sz (n : Nat) : Prop := 2 ≤ n ∧ n ≤ 16 ∧ n % 2 = 0
theorem lb_rows {c : Int} {rows : List (List Int)} (h : ¬ Sz rows.length) : FX_looked_board [.val (bT rows), .val (.int c)] = some (.x "NoBoard") := by
  have s := size_no (n := (rows.length : Int)) (by unfold Sz at h; omega)
  unfold FX_looked_board mX_looked_board bT
  clear h
  walk_at "mi"
theorem lb_row {c : Int} {r0 : List Int} {rest : List (List Int)} (h : Sz (rest.length + 1)) (h0 : ¬ Sz r0.length) : FX_looked_board [.val (bT (r0 :: rest)), .val (.int c)] = some (.x "NoBoard") := by
  have s := size_yes (n := (rest.length : Int) + 1) (by unfold Sz at h; omega) (by unfold Sz at h; omega) (by unfold Sz at h; omega)
  have s2 := size_no (n := (r0.length : Int)) (by unfold Sz at h0; omega)
  have e : atI (D.tup (r0.map D.int) :: rest.map rD) 0 = some (.tup (r0.map D.int)) := at0
  unfold FX_looked_board mX_looked_board bT
  clear h h0
  have e2 : rD r0 = .tup (r0.map D.int) := rfl
  walk_at "mi"
theorem lb_cell {c : Int} {r0 : List Int} {rest : List (List Int)} (h : Sz (rest.length + 1)) (h0 : Sz r0.length) (hb : ∃ r ∈ r0 :: rest, ¬ fine c r0.length r) : FX_looked_board [.val (bT (r0 :: rest)), .val (.int c)] = some (.x "NoBoard") := by
  have s := size_yes (n := (rest.length : Int) + 1) (by unfold Sz at h; omega) (by unfold Sz at h; omega) (by unfold Sz at h; omega)
  have s2 := size_yes (n := (r0.length : Int)) (by unfold Sz at h0; omega) (by unfold Sz at h0; omega) (by unfold Sz at h0; omega)
  have e : atI (D.tup (r0.map D.int) :: rest.map rD) 0 = some (.tup (r0.map D.int)) := at0
  have lp := rows_bad (s0 := some (.val (bT (r0 :: rest)))) (s2 := some (.val (.int ((rest.length : Int) + 1)))) (s4 := none) (by unfold Sz at h0; omega) hb
  have l0 : xl0_looked_board [some (.val (bT (r0 :: rest))), some (.val (.int c)), some (.val (.int ((rest.length : Int) + 1))), some (.val (.int (r0.length : Int))), none] = some (.ex "NoBoard") := lp
  unfold FX_looked_board mX_looked_board
  clear h h0 hb lp
  have e2 : rD r0 = .tup (r0.map D.int) := rfl
  have e3 : bT (r0 :: rest) = .tup (rD r0 :: rest.map rD) := rfl
  rw [e3, e2] at l0 ⊢
  clear e3 e2
  have e4 : (rest.map rD).length = rest.length := List.length_map _
  generalize rest.map rD = rr at *
  walk_at "mi"
noncomputable def Bad (c : Int) (rows : List (List Int)) : Prop := ¬ Sz rows.length ∨ ∃ r0 rest, rows = r0 :: rest ∧ (¬ Sz r0.length ∨ ∃ r ∈ rows, ¬ fine c r0.length r)
theorem lb_bad {c : Int} {rows : List (List Int)} (h : Bad c rows) : FX_looked_board [.val (bT rows), .val (.int c)] = some (.x "NoBoard") := by
  by_cases z : Sz rows.length
  · rcases h with h | ⟨r0, rest, rfl, h⟩
    · exact absurd z h
    · by_cases z0 : Sz r0.length
      · exact lb_cell (by simpa using z) z0 (h.resolve_left fun q => q z0)
      · exact lb_row (by simpa using z) z0
  · exact lb_rows z
section
variable {c : Int} {bs : List Int}
theorem cn (hc : Bd.Col c) : c.natAbs < 2 ^ 64 := by rcases hc with rfl | rfl <;> decide
theorem lk_len (hc : Bd.Col c) (h : bs.length ≠ Bd.nOf c) : FX_looked [.fz (bs.map D.int), .val (.int c)] = some (.x "NoRule") := by
  have pw : c ^ 4 = ((Bd.nOf c : Nat) : Int) := (Bd.nOf_pow hc).symm
  have cn := cn hc
  have h' : ¬ ((bs.length : Int) = ((Bd.nOf c : Nat) : Int)) := by omega
  unfold FX_looked mX_looked
  clear hc
  generalize Bd.nOf c = n at *
  walk_at "mi"
theorem lk_dup (hc : Bd.Col c) (hl : bs.length = Bd.nOf c) (hne : bs ≠ []) (h1 : 0 ≤ lowN bs) (h2 : topN bs < ((Bd.nOf c : Nat) : Int)) (h3 : ¬ bs.Nodup) : FX_looked [.fz (bs.map D.int), .val (.int c)] = some (.x "NotBack") := by
  have pw : c ^ 4 = ((Bd.nOf c : Nat) : Int) := (Bd.nOf_pow hc).symm
  have cn := cn hc
  obtain ⟨elo, ehi⟩ := lows hne
  have io := intsOf_map bs
  have hz : Bd.nOf c < 4000 := by unfold Bd.nOf; split <;> omega
  have hu := unlike_dup h3
  rw [hl] at hu
  have hu' : ¬ (((unlike bs : Nat) : Int) = ((Bd.nOf c : Nat) : Int)) := by omega
  have c1 : ¬ lowN bs < 0 := by omega
  have c2 : ¬ ((Bd.nOf c : Nat) : Int) ≤ topN bs := by omega
  unfold FX_looked mX_looked
  clear hc hne h1 h2 h3
  generalize Bd.nOf c = n at *
  generalize lowN bs = lw at *
  generalize topN bs = tp at *
  walk_at "mi"
end
theorem cut_last {A : List Str} {x : Str} : cutD ((A ++ [x]).map D.str) none (some (-1)) = A.map D.str := by
  unfold cutD HT.sIx
  simp only [List.length_map, List.drop_zero, Nat.sub_zero]
  rw [if_pos (by omega), List.map_append]
  have e : ((-1 : Int) + ((A ++ [x]).length : Int)).toNat = (A.map D.str).length := by simp; omega
  rw [e]
  simp
theorem at_last {A : List Str} {x : Str} : atI ((A ++ [x]).map D.str) (-1) = some (.str x) := by
  rw [List.map_append]
  exact atI_last _ _
theorem linesV {x : Str} {A : List Str} (h : Txt.split x nl = A ++ [Tx.mk []]) (hx : x.length + 2 < 1000000) (hA : A.length + 1 < 1000000) : FX_lines_of [.val (.str x)] = some (.v (.own (A.map D.str))) := by
  have h1 := at_last (A := A) (x := Tx.mk [])
  have h2 := cut_last (A := A) (x := Tx.mk [])
  have h3 : (nl.length == 0) = false := rfl
  have h4 : (A ++ [Tx.mk []]).length < 1000000 := by simpa using hA
  have e1 := snl
  have e2 : Str.ofString "" = Tx.mk [] := sem
  have s1 : PyData.strOk (Tx.mk []) = true := sok (by simp)
  unfold FX_lines_of mX_lines_of
  rw [e1, e2]
  clear hA e1 e2
  generalize hB : A ++ [Tx.mk []] = Bq at *
  generalize Tx.mk [] = em at *
  generalize nl = n1 at *
  clear hB
  walk_at "mi"
theorem linesX {x z : Str} {A : List Str} (h : Txt.split x nl = A ++ [z]) (hz : z ≠ Tx.mk []) (ho : PyData.strOk z = true) (hx : x.length + 2 < 1000000) (hA : A.length + 1 < 1000000) : FX_lines_of [.val (.str x)] = some (.x "BadNote") := by
  have h1 := at_last (A := A) (x := z)
  have h3 : (nl.length == 0) = false := rfl
  have h4 : (A ++ [z]).length < 1000000 := by simpa using hA
  have e1 := snl
  have e2 : Str.ofString "" = Tx.mk [] := sem
  have s1 : PyData.strOk (Tx.mk []) = true := sok (by simp)
  have hz' : (z == Tx.mk []) = false := by simpa using hz
  unfold FX_lines_of mX_lines_of
  rw [e1, e2]
  clear hA e1 e2
  generalize hB : A ++ [z] = Bq at *
  generalize Tx.mk [] = em at *
  generalize nl = n1 at *
  clear hB
  walk_at "mi"
section
variable {a0 s4 : Option Slot} {N : Nat} {acc : List D} {tb : List (Str × Int)} {sz : Int} {t : Str}
theorem nr_bodyV {n : Int} (d : dat t tb = some n) (hz : acc.length < 1000000) : xb0_numbers_read [a0, some (.val (.int sz)), some (.val (.dct tb)), some (.own acc), some (.val (.str t))] =
    some (.o (.nx [a0, some (.val (.int sz)), some (.val (.dct tb)), some (.own (acc ++ [.int n])), some (.val (.str t))])) := by
  unfold xb0_numbers_read
  walk_at "mi"
theorem nr_bodyX (d : dat t tb = none) : xb0_numbers_read [a0, some (.val (.int sz)), some (.val (.dct tb)), some (.own acc), some (.val (.str t))] = some (.ex "BadNote") := by
  unfold xb0_numbers_read
  walk_at "mi"
noncomputable def valW (tb : List (Str × Int)) (w : Str) : Int := (dat w tb).getD 0
theorem nr_loopV : ∀ (ws : List Str) (acc : List D) (s4 : Option Slot), (∀ w ∈ ws, (dat w tb).isSome = true) → acc.length + ws.length < 1000000 → ∃ s, xforL (setN 4) xb0_numbers_read (ws.map fun w => .val (.str w)) [a0, some (.val (.int sz)), some (.val (.dct tb)), some (.own acc), s4] =
    some (.o (.nx [a0, some (.val (.int sz)), some (.val (.dct tb)), some (.own (acc ++ ws.map fun w => .int (valW tb w))), s]))
  | [], acc, s4, _, _ => ⟨s4, by simp [xforL]⟩
  | w :: ws, acc, s4, h, hz => by
    obtain ⟨n, hn⟩ := Option.isSome_iff_exists.mp (h w (by simp))
    simp only [List.length_cons] at hz
    have b := nr_bodyV (a0 := a0) (sz := sz) (acc := acc) hn (by omega)
    obtain ⟨s, e⟩ := nr_loopV ws (acc ++ [.int n]) (some (.val (.str w))) (fun m hm => h m (by simp [hm])) (by simp; omega)
    have e0 : setN 4 (.val (.str w)) [a0, some (.val (.int sz)), some (.val (.dct tb)), some (.own acc), s4] = some [a0, some (.val (.int sz)), some (.val (.dct tb)), some (.own acc), some (.val (.str w))] := rfl
    refine ⟨s, ?_⟩
    have ev : valW tb w = n := by unfold valW; rw [hn]; rfl
    simp only [List.map_cons, xforL, e0, Option.bind_some, b, ev]
    rw [List.append_assoc] at e
    exact e
theorem nr_loopX : ∀ (ws : List Str) (acc : List D) (s4 : Option Slot), (∃ w ∈ ws, dat w tb = none) → acc.length + ws.length < 1000000 → xforL (setN 4) xb0_numbers_read (ws.map fun w => .val (.str w)) [a0, some (.val (.int sz)), some (.val (.dct tb)), some (.own acc), s4] = some (.ex "BadNote")
  | [], acc, s4, h, _ => by obtain ⟨w, hw, _⟩ := h; simp at hw
  | w :: ws, acc, s4, h, hz => by
    simp only [List.length_cons] at hz
    have e0 : setN 4 (.val (.str w)) [a0, some (.val (.int sz)), some (.val (.dct tb)), some (.own acc), s4] = some [a0, some (.val (.int sz)), some (.val (.dct tb)), some (.own acc), some (.val (.str w))] := rfl
    cases hn : dat w tb with
    | none =>
      have b := nr_bodyX (a0 := a0) (sz := sz) (acc := acc) hn
      simp only [List.map_cons, xforL, e0, Option.bind_some, b]
    | some n =>
      have b := nr_bodyV (a0 := a0) (sz := sz) (acc := acc) hn (by omega)
      simp only [List.map_cons, xforL, e0, Option.bind_some, b]
      refine nr_loopX ws (acc ++ [.int n]) (some (.val (.str w))) ?_ (by simp; omega)
      obtain ⟨v, hv, q⟩ := h
      rcases List.mem_cons.mp hv with rfl | hv
      · rw [hn] at q; cases q
      · exact ⟨v, hv, q⟩
theorem nrV {a : Slot} {ws : List Str} (hN : N ≤ 81) (h : ∀ w ∈ ws, (dat w (wordsTab N)).isSome = true) (hz : ws.length < 1000000)
    (hit : mItA (mFr 0) [some a, some (.val (.int N)), some (.val (.dct (wordsTab N))), some (.own []), none] = some (ws.map fun w => .val (.str w), [some a, some (.val (.int N)), some (.val (.dct (wordsTab N))), some (.own []), none])) :
    FX_numbers_read [a, .val (.int N)] = some (.v (.own (ws.map fun w => .int (valW (wordsTab N) w)))) := by
  obtain ⟨s, e⟩ := nr_loopV (a0 := some a) (sz := N) ws [] none h (by simpa using hz)
  have l0 : xl0_numbers_read [some a, some (.val (.int N)), some (.val (.dct (wordsTab N))), some (.own []), none] = some (.o (.nx [some a, some (.val (.int N)), some (.val (.dct (wordsTab N))), some (.own (ws.map fun w => .int (valW (wordsTab N) w))), s])) := by
    unfold xl0_numbers_read xFor
    rw [hit, Option.bind_some]
    simpa using e
  have fw : F_numbers_by_word [.val (.int N)] = some (.val (.dct (wordsTab N))) := by
    unfold F_numbers_by_word gWords
    dsimp only
    rw [if_pos (by omega)]
    simp
  unfold FX_numbers_read mX_numbers_read
  clear hit e h hz hN
  generalize (ws.map fun w => D.int (valW (wordsTab N) w)) = rr at *
  generalize wordsTab N = tb at *
  walk_at "mi"
theorem nrX {a : Slot} {ws : List Str} (hN : N ≤ 81) (h : ∃ w ∈ ws, dat w (wordsTab N) = none) (hz : ws.length < 1000000)
    (hit : mItA (mFr 0) [some a, some (.val (.int N)), some (.val (.dct (wordsTab N))), some (.own []), none] = some (ws.map fun w => .val (.str w), [some a, some (.val (.int N)), some (.val (.dct (wordsTab N))), some (.own []), none])) :
    FX_numbers_read [a, .val (.int N)] = some (.x "BadNote") := by
  have e := nr_loopX (a0 := some a) (sz := N) ws [] none h (by simpa using hz)
  have l0 : xl0_numbers_read [some a, some (.val (.int N)), some (.val (.dct (wordsTab N))), some (.own []), none] = some (.ex "BadNote") := by
    unfold xl0_numbers_read xFor
    rw [hit, Option.bind_some]
    simpa using e
  have fw : F_numbers_by_word [.val (.int N)] = some (.val (.dct (wordsTab N))) := by
    unfold F_numbers_by_word gWords
    dsimp only
    rw [if_pos (by omega)]
    simp
  unfold FX_numbers_read mX_numbers_read
  clear hit e h hz hN
  generalize wordsTab N = tb at *
  walk_at "mi"
theorem it_list {ws : List Str} : mItA (mFr 0) [some (.fz (ws.map D.str)), some (.val (.int N)), some (.val (.dct tb)), some (.own []), none] = some (ws.map fun w => .val (.str w), [some (.fz (ws.map D.str)), some (.val (.int N)), some (.val (.dct tb)), some (.own []), none]) := by
  have e : (ws.map D.str).map Slot.val = ws.map fun w => .val (.str w) := by
    rw [List.map_map]
    rfl
  rw [← e]
  generalize ws.map D.str = ds at *
  walk_at "mi"
noncomputable def sgn (x : Str) : List Str := (L x).map fun ch => Tx.mk [ch]
theorem it_text {x : Str} (h : x.cps.all (· < 128) = true) : mItA (mFr 0) [some (.val (.str x)), some (.val (.int N)), some (.val (.dct tb)), some (.own []), none] = some ((sgn x).map fun w => .val (.str w), [some (.val (.str x)), some (.val (.int N)), some (.val (.dct tb)), some (.own []), none]) := by
  have e : mFr 0 [some (.val (.str x)), some (.val (.int N)), some (.val (.dct tb)), some (.own []), none] = some (.of (.val (.str x)), [some (.val (.str x)), some (.val (.int N)), some (.val (.dct tb)), some (.own []), none]) := rfl
  unfold mItA
  rw [e, Option.bind_some]
  show (if x.cps.all (· < 128) = true then some (chars x, _) else none) = _
  rw [if_pos h]
  unfold chars sgn
  rw [List.map_map]
  rfl
end
end K17
namespace K17
open PySem L2 Mi Sh Tx
theorem app_len (x y : Str) : (x ++ y).length = x.length + y.length := by rw [len_L, L_app, List.length_append]; rfl
noncomputable def goodT (tb : List (Str × Int)) (x : Str) : Prop := ∀ w ∈ sgn x, (dat w tb).isSome = true
noncomputable def rowT (tb : List (Str × Int)) (x : Str) : List Int := (sgn x).map (valW tb)
section
variable {tx : Slot} {s2 s3 : Option Slot} {c : Nat}
noncomputable abbrev eltB : MXE := mOpX gTuple (mCallX 2 FX_numbers_read (mCons (mRd 4) (mCons (mRd 1) mNil)))
theorem eltV {x : Str} (hN : c ≤ 81) (ha : x.cps.all (· < 128) = true) (hz : x.length < 1000000) (h : goodT (wordsTab c) x) : eltB [some tx, some (.val (.int c)), s2, s3, some (.val (.str x))] = some (.v (.of (.val (rD (rowT (wordsTab c) x)))) [some tx, some (.val (.int c)), s2, s3, some (.val (.str x))]) := by
  have n := nrV (a := .val (.str x)) hN h (by unfold sgn; rw [List.length_map]; exact hz) (it_text ha)
  have e : rD (rowT (wordsTab c) x) = .tup ((sgn x).map fun w => .int (valW (wordsTab c) w)) := by
    unfold rD rowT
    rw [List.map_map]
    rfl
  rw [e]
  clear e h ha hz hN
  generalize ((sgn x).map fun w => D.int (valW (wordsTab c) w)) = rr at *
  walk_at "mi"
theorem eltX {x : Str} (hN : c ≤ 81) (ha : x.cps.all (· < 128) = true) (hz : x.length < 1000000) (h : ¬ goodT (wordsTab c) x) : eltB [some tx, some (.val (.int c)), s2, s3, some (.val (.str x))] = some (.x "BadNote") := by
  have h' : ∃ w ∈ sgn x, dat w (wordsTab c) = none := by
    refine Classical.byContradiction fun q => h fun w hw => ?_
    cases e : dat w (wordsTab c) with
    | none => exact absurd ⟨w, hw, e⟩ q
    | some n => rfl
  have n := nrX (a := .val (.str x)) hN h' (by unfold sgn; rw [List.length_map]; exact hz) (it_text ha)
  clear h h' ha hz hN
  walk_at "mi"
noncomputable def okS (s : Option Slot) : Prop := s = none ∨ ∃ d, s = some (.val d)
theorem rowsV (hN : c ≤ 81) : ∀ (A : List Str) (s4 : Option Slot), okS s4 → (∀ x ∈ A, x.cps.all (· < 128) = true ∧ x.length < 1000000 ∧ goodT (wordsTab c) x) → ∃ s, okS s ∧ compLX (setN 4) eltB (A.map fun x => .val (.str x)) [some tx, some (.val (.int c)), s2, s3, s4] = some (.ok (A.map fun x => rD (rowT (wordsTab c) x)) [some tx, some (.val (.int c)), s2, s3, s])
  | [], s4, ok, _ => ⟨s4, ok, rfl⟩
  | x :: A, s4, ok, h => by
    obtain ⟨h1, h2, h3⟩ := h x (by simp)
    have b := eltV (tx := tx) (s2 := s2) (s3 := s3) hN h1 h2 h3
    obtain ⟨s, ok2, e⟩ := rowsV hN A (some (.val (.str x))) (.inr ⟨_, rfl⟩) (fun m hm => h m (by simp [hm]))
    have e0 : setN 4 (.val (.str x)) [some tx, some (.val (.int c)), s2, s3, s4] = some [some tx, some (.val (.int c)), s2, s3, some (.val (.str x))] := rfl
    refine ⟨s, ok2, ?_⟩
    simp only [List.map_cons, compLX, e0, Option.bind_some, b, e]
    rfl
theorem rowsX (hN : c ≤ 81) : ∀ (A : List Str) (s4 : Option Slot), (∀ x ∈ A, x.cps.all (· < 128) = true ∧ x.length < 1000000) → (∃ x ∈ A, ¬ goodT (wordsTab c) x) → compLX (setN 4) eltB (A.map fun x => .val (.str x)) [some tx, some (.val (.int c)), s2, s3, s4] = some (.ex "BadNote")
  | [], s4, _, h => by obtain ⟨w, hw, _⟩ := h; simp at hw
  | x :: A, s4, ha, h => by
    obtain ⟨h1, h2⟩ := ha x (by simp)
    have e0 : setN 4 (.val (.str x)) [some tx, some (.val (.int c)), s2, s3, s4] = some [some tx, some (.val (.int c)), s2, s3, some (.val (.str x))] := rfl
    by_cases h3 : goodT (wordsTab c) x
    · have b := eltV (tx := tx) (s2 := s2) (s3 := s3) hN h1 h2 h3
      have e := rowsX hN A (some (.val (.str x))) (fun m hm => ha m (by simp [hm])) (by
        obtain ⟨v, hv, q⟩ := h
        rcases List.mem_cons.mp hv with rfl | hv
        · exact absurd h3 q
        · exact ⟨v, hv, q⟩)
      simp only [List.map_cons, compLX, e0, Option.bind_some, b, e]
      rfl
    · have b := eltX (tx := tx) (s2 := s2) (s3 := s3) hN h1 h2 h3
      simp only [List.map_cons, compLX, e0, Option.bind_some, b]
end
section
variable {c : Nat} {T : Str} {A : List Str}
theorem compX (hN : c ≤ 81) (hs : Txt.split T nl = A ++ [Tx.mk []]) (hT : T.length + 2 < 1000000) (hA : A.length + 1 < 1000000) (ha : ∀ x ∈ A, x.cps.all (· < 128) = true ∧ x.length < 1000000) (h : ∃ x ∈ A, ¬ goodT (wordsTab c) x) :
    xc0_read_board [some (.val (.str T)), some (.val (.int c)), none, none, none] = some (.x "BadNote") := by
  have li := linesV hs hT hA
  have it : mItX (mCallX 1 FX_lines_of (mCons (mRd 0) mNil)) [some (.val (.str T)), some (.val (.int c)), none, none, none] = some (.v ((A.map D.str).map .val) [some (.val (.str T)), some (.val (.int c)), none, none, none]) := by
    clear ha h hs hN
    generalize A.map D.str = ds at *
    walk_at "mi"
  have e := rowsX (tx := .val (.str T)) (s2 := none) (s3 := none) hN A none ha h
  have e1 : (A.map D.str).map Slot.val = A.map fun x => .val (.str x) := by rw [List.map_map]; rfl
  have e2 : (A.map fun x => Slot.val (.str x)).length < 1000000 := by rw [List.length_map]; omega
  unfold xc0_read_board mCompX
  rw [it, Option.bind_some, e1]
  dsimp only
  rw [if_pos ⟨e2, rfl⟩]
  have e3 : maskE [4] [some (.val (.str T)), some (.val (.int c)), none, none, none] = [some (.val (.str T)), some (.val (.int c)), none, none, none] := rfl
  rw [e3, e]
  rfl
theorem compV (hN : c ≤ 81) (hs : Txt.split T nl = A ++ [Tx.mk []]) (hT : T.length + 2 < 1000000) (hA : A.length + 1 < 1000000) (ha : ∀ x ∈ A, x.cps.all (· < 128) = true ∧ x.length < 1000000 ∧ goodT (wordsTab c) x) :
    xc0_read_board [some (.val (.str T)), some (.val (.int c)), none, none, none] = some (.v (.of (.own ((A.map (rowT (wordsTab c))).map rD))) [some (.val (.str T)), some (.val (.int c)), none, none, none]) := by
  have li := linesV hs hT hA
  have it : mItX (mCallX 1 FX_lines_of (mCons (mRd 0) mNil)) [some (.val (.str T)), some (.val (.int c)), none, none, none] = some (.v ((A.map D.str).map .val) [some (.val (.str T)), some (.val (.int c)), none, none, none]) := by
    clear ha hs hN
    generalize A.map D.str = ds at *
    walk_at "mi"
  obtain ⟨s, ok, e⟩ := rowsV (tx := .val (.str T)) (s2 := none) (s3 := none) hN A none (.inl rfl) ha
  have e1 : (A.map D.str).map Slot.val = A.map fun x => .val (.str x) := by rw [List.map_map]; rfl
  have e2 : (A.map fun x => Slot.val (.str x)).length < 1000000 := by rw [List.length_map]; omega
  have e4 : (A.map (rowT (wordsTab c))).map rD = A.map fun x => rD (rowT (wordsTab c) x) := by rw [List.map_map]; rfl
  unfold xc0_read_board mCompX
  rw [it, Option.bind_some, e1, e4]
  dsimp only
  rw [if_pos ⟨e2, rfl⟩]
  have e3 : maskE [4] [some (.val (.str T)), some (.val (.int c)), none, none, none] = [some (.val (.str T)), some (.val (.int c)), none, none, none] := rfl
  rw [e3, e, Option.bind_some]
  rcases ok with rfl | ⟨d, rfl⟩ <;> rfl
theorem rbX (hc : c = 2 ∨ c = 3) (hs : Txt.split T nl = A ++ [Tx.mk []]) (hT : T.length + 2 < 1000000) (hA : A.length + 1 < 1000000) (ha : ∀ x ∈ A, x.cps.all (· < 128) = true ∧ x.length < 1000000)
    (h : (∃ x ∈ A, ¬ goodT (wordsTab c) x) ∨ Bad c (A.map (rowT (wordsTab c)))) : FX_read_board [.val (.str T), .val (.int c)] = some (.x "BadNote") := by
  have hN : c ≤ 81 := by omega
  by_cases z : ∃ x ∈ A, ¬ goodT (wordsTab c) x
  · have e := compX hN hs hT hA ha z
    unfold FX_read_board mX_read_board
    clear hs hT hA ha h z hN hc
    walk_at "mi"
  · have z' : ∀ x ∈ A, x.cps.all (· < 128) = true ∧ x.length < 1000000 ∧ goodT (wordsTab c) x := fun x hx => ⟨(ha x hx).1, (ha x hx).2, Classical.byContradiction fun q => z ⟨x, hx, q⟩⟩
    have e := compV hN hs hT hA z'
    have lb := lb_bad (h.resolve_left z)
    unfold bT at lb
    unfold FX_read_board mX_read_board
    clear hs hT hA ha h z z' hN hc
    generalize (A.map (rowT (wordsTab c))).map rD = rr at *
    walk_at "mi"
theorem rbY {z : Str} (hs : Txt.split T nl = A ++ [z]) (hz : z ≠ Tx.mk []) (ho : PyData.strOk z = true) (hT : T.length + 2 < 1000000) (hA : A.length + 1 < 1000000) : FX_read_board [.val (.str T), .val (.int c)] = some (.x "BadNote") := by
  have li := linesX hs hz ho hT hA
  have e : xc0_read_board [some (.val (.str T)), some (.val (.int c)), none, none, none] = some (.x "BadNote") := by
    unfold xc0_read_board mCompX
    have it : mItX (mCallX 1 FX_lines_of (mCons (mRd 0) mNil)) [some (.val (.str T)), some (.val (.int c)), none, none, none] = some (.x "BadNote") := by
      clear hs
      walk_at "mi"
    rw [it]
    rfl
  unfold FX_read_board mX_read_board
  clear hs hT hA
  walk_at "mi"
end
section
variable {T : Str} {A : List Str}
theorem rrA {z : Str} (hs : Txt.split T nl = A ++ [z]) (hz : z ≠ Tx.mk []) (ho : PyData.strOk z = true) (hT : T.length + 2 < 1000000) (hA : A.length + 1 < 1000000) : FX_read_rule [.val (.str T)] = some (.x "BadNote") := by
  have li := linesX hs hz ho hT hA
  unfold FX_read_rule mX_read_rule
  clear hs hT hA
  walk_at "mi"
theorem rrB (hs : Txt.split T nl = A ++ [Tx.mk []]) (h : A.length ≠ 2) (hT : T.length + 2 < 1000000) (hA : A.length + 1 < 1000000) : FX_read_rule [.val (.str T)] = some (.x "BadNote") := by
  have li := linesV hs hT hA
  have h' : ¬ ((A.length : Int) = 2) := by omega
  have e : (A.map D.str).length = A.length := List.length_map _
  unfold FX_read_rule mX_read_rule
  clear hs hT hA h
  generalize A.map D.str = ds at *
  walk_at "mi"
theorem two (a b : Str) : atI [D.str a, D.str b] 0 = some (.str a) ∧ atI [D.str a, D.str b] 1 = some (.str b) := ⟨rfl, rfl⟩
theorem rrC {hd b : Str} (hs : Txt.split T nl = [hd, b] ++ [Tx.mk []]) (hT : T.length + 2 < 1000000) (h : dat hd [("rule 2", 2), ("rule 3", 3)] = none) : FX_read_rule [.val (.str T)] = some (.x "BadNote") := by
  have li := linesV hs hT (by simp)
  obtain ⟨u1, u2⟩ := two hd b
  unfold FX_read_rule mX_read_rule
  clear hs hT
  generalize ht : [("rule 2", 2), ("rule 3", 3)] = tt at *
  clear ht
  walk_at "mi"
theorem heads {c : Int} (hc : Bd.Col c) : dat (headS c) [("rule 2", 2), ("rule 3", 3)] = some c := by rcases hc with rfl | rfl <;> decide +kernel
theorem rrD {c : Int} {b : Str} {ws : List Str} (hc : Bd.Col c) (hs : Txt.split T nl = [headS c, b] ++ [Tx.mk []]) (hT : T.length + 2 < 1000000) (hb : b.length + 2 < 1000000) (sp : Txt.split b ⟨#[32]⟩ = ws) (hw : ws.length < 1000000)
    (h : ∃ w ∈ ws, dat w (wordsTab (Bd.nOf c)) = none) : FX_read_rule [.val (.str T)] = some (.x "BadNote") := by
  have li := linesV hs hT (by simp)
  obtain ⟨u1, u2⟩ := two (headS c) b
  have hz : Bd.nOf c ≤ 81 ∧ 0 < Bd.nOf c := by unfold Bd.nOf; split <;> omega
  have n := nrX (a := .fz (ws.map D.str)) hz.1 h hw it_list
  have pw : c ^ 4 = ((Bd.nOf c : Nat) : Int) := (Bd.nOf_pow hc).symm
  have cn := cn hc
  have t1 := heads hc
  have s3 : ((⟨#[32]⟩ : Str).length == 0) = false := rfl
  unfold FX_read_rule mX_read_rule
  rw [ssp]
  clear h hc hs hT
  obtain ⟨hz1, hz2⟩ := hz
  have hn : ((Bd.nOf c : Nat) : Int) < 4611686018427387904 := by omega
  generalize Bd.nOf c = n at *
  generalize headS c = hh at *
  generalize (⟨#[32]⟩ : Str) = sq at *
  generalize ht : [("rule 2", 2), ("rule 3", 3)] = tt at *
  clear ht
  walk_at "mi"
theorem rrE {c : Int} {b : Str} {ws : List Str} {ex : Str} (hc : Bd.Col c) (hs : Txt.split T nl = [headS c, b] ++ [Tx.mk []]) (hT : T.length + 2 < 1000000) (hb : b.length + 2 < 1000000) (sp : Txt.split b ⟨#[32]⟩ = ws) (hw : ws.length < 1000000)
    (h : ∀ w ∈ ws, (dat w (wordsTab (Bd.nOf c))).isSome = true) (he : ex = "NoRule" ∨ ex = "NotBack") (lk : FX_looked [.fz ((ws.map (valW (wordsTab (Bd.nOf c)))).map D.int), .val (.int c)] = some (.x ex)) : FX_read_rule [.val (.str T)] = some (.x "BadNote") := by
  have li := linesV hs hT (by simp)
  obtain ⟨u1, u2⟩ := two (headS c) b
  have hz : Bd.nOf c ≤ 81 ∧ 0 < Bd.nOf c := by unfold Bd.nOf; split <;> omega
  have n := nrV (a := .fz (ws.map D.str)) hz.1 h hw it_list
  have en : (ws.map (valW (wordsTab (Bd.nOf c)))).map D.int = ws.map fun w => .int (valW (wordsTab (Bd.nOf c)) w) := by rw [List.map_map]; rfl
  rw [en] at lk
  clear en
  have pw : c ^ 4 = ((Bd.nOf c : Nat) : Int) := (Bd.nOf_pow hc).symm
  have cn := cn hc
  have t1 := heads hc
  have s3 : ((⟨#[32]⟩ : Str).length == 0) = false := rfl
  have he' : ex ∈ ([Str.ofString "NoRule", Str.ofString "NotBack"] : List Str) := by simpa using he
  unfold FX_read_rule mX_read_rule
  rw [ssp]
  clear h hc hs hT he
  obtain ⟨hz1, hz2⟩ := hz
  have hn : ((Bd.nOf c : Nat) : Int) < 4611686018427387904 := by omega
  generalize (ws.map fun w => D.int (valW (wordsTab (Bd.nOf c)) w)) = rr at *
  generalize Bd.nOf c = n at *
  generalize headS c = hh at *
  generalize (⟨#[32]⟩ : Str) = sq at *
  generalize ht : [("rule 2", 2), ("rule 3", 3)] = tt at *
  clear ht
  generalize [Str.ofString "NoRule", Str.ofString "NotBack"] = tk at *
  walk_at "mi"
end
end K17
namespace K17
open PySem L2 Mi Sh Tx
theorem refB {T : Str} {c : Int} (h : FX_read_board [.val (.str T), .val (.int c)] = some (.x "BadNote")) : F__law_refused [.val (.int 0), .val (.str T), .val (.int c)] = some (.val (.bl true)) := by
  unfold F__law_refused m__law_refused
  walk_at "mi"
theorem refR {T : Str} {c : Int} (h : FX_read_rule [.val (.str T)] = some (.x "BadNote")) : F__law_refused [.val (.int 1), .val (.str T), .val (.int c)] = some (.val (.bl true)) := by
  unfold F__law_refused m__law_refused
  walk_at "mi"
theorem sl_to {x : Str} {a : Nat} (h : a ≤ x.length) : Txt.slice x none (some (a : Int)) = Tx.mk ((L x).take a) := by
  have e := StrLaws.sliceText_to (x := x) (j := (a : Int)) ⟨by omega, by have : x.length = x.cps.toList.length := rfl; omega⟩
  have e2 : ((a : Int) - 0).toNat = a := by omega
  rw [e2, List.drop_zero] at e
  exact e
theorem sl_from {x : Str} {a : Nat} (h : a ≤ x.length) : Txt.slice x (some (a : Int)) none = Tx.mk ((L x).drop a) := by
  have e := StrLaws.sliceText_from (x := x) (i := (a : Int)) ⟨by omega, by have : x.length = x.cps.toList.length := rfl; omega⟩
  have e2 : ((a : Int)).toNat = a := by omega
  rw [e2, List.take_of_length_le (by rw [List.length_drop]; omega)] at e
  exact e
theorem sl_last {x : Str} (h : 0 < x.length) : Txt.slice x none (some (-1)) = Tx.mk ((L x).take (x.length - 1)) := by
  have e : Txt.slice x none (some (-1)) = Txt.slice x none (some ((x.length - 1 : Nat) : Int)) := by
    unfold Txt.slice
    have q : Builtin.Str.strSliceIndices none (some (-1)) 1 x.length = Builtin.Str.strSliceIndices none (some ((x.length - 1 : Nat) : Int)) 1 x.length := by
      have a : ¬ (((x.length - 1 : Nat) : Int) < 0) := by omega
      have b : (-1 + (x.length : Int)) = ((x.length - 1 : Nat) : Int) := by omega
      simp [Builtin.Str.strSliceIndices, a, b]
    rw [q]
  rw [e, sl_to (by omega)]
noncomputable def textOf (A : List Str) : Str := Txt.join Str.empty (A.map (· ++ nl))
theorem J_lines : ∀ A : List (List Nat), J 10 (A ++ [[]]) = (A.map (· ++ [10])).flatten
  | [] => rfl
  | [x] => by simp [J]
  | x :: y :: r => by
    have ih := J_lines (y :: r)
    show x ++ 10 :: J 10 ((y :: r) ++ [[]]) = _
    rw [ih]
    simp
theorem L_text (A : List Str) : L (textOf A) = ((A.map L).map (· ++ [10])).flatten := by
  unfold textOf
  rw [join_eq, L_cat, List.map_map, List.map_map]
  congr 1
  apply List.map_congr_left
  intro x _
  show L (x ++ nl) = L x ++ [10]
  rw [L_app]
theorem split_lines {A : List Str} (h : ∀ x ∈ A, 10 ∉ L x) : Txt.split (textOf A) nl = A ++ [Tx.mk []] := by
  have e : textOf A = Str.join nl (A ++ [Tx.mk []]) := by
    refine ext ?_
    rw [L_join, L_text, ← J_lines]
    congr 1
    rw [List.map_append]
    rfl
  rw [e]
  refine split_join (by simp) fun p hp => ?_
  rcases List.mem_append.mp hp with hp | hp
  · exact h p hp
  · have hp : p = Tx.mk [] := by simpa using hp
    rw [hp, L_mk]
    simp
theorem text_len : ∀ {A : List Str}, (∀ x ∈ A, x.length ≤ 10) → (textOf A).length ≤ 11 * A.length
  | [], _ => by decide
  | x :: A, h => by
    have h1 := h x (by simp)
    have h2 := text_len (A := A) fun y hy => h y (by simp [hy])
    rw [len_L, L_text] at h2 ⊢
    rw [len_L] at h1
    simp only [List.map_cons, List.flatten_cons, List.length_append, List.length_cons, List.length_nil]
    omega
theorem asc {x : Str} (h : ∀ ch ∈ L x, ch < 128) : x.cps.all (· < 128) = true := by
  obtain ⟨⟨l⟩⟩ := x
  simp only [List.all_toArray]
  rw [List.all_eq_true]
  intro ch hch
  simpa using h ch hch
theorem finB {c : Nat} {bad : List Str} (hc : c = 2 ∨ c = 3) (h1 : ∀ x ∈ bad, x.length ≤ 10 ∧ ∀ ch ∈ L x, ch < 128 ∧ ch ≠ 10) (h2 : bad.length ≤ 10) (h : (∃ x ∈ bad, ¬ goodT (wordsTab c) x) ∨ Bad c (bad.map (rowT (wordsTab c)))) :
    FX_read_board [.val (.str (textOf bad)), .val (.int c)] = some (.x "BadNote") := by
  have tl := text_len fun x hx => (h1 x hx).1
  refine rbX hc (split_lines fun x hx z => ((h1 x hx).2 10 z).2 rfl) (by omega) (by omega) (fun x hx => ⟨asc fun ch hch => ((h1 x hx).2 ch hch).1, by have := (h1 x hx).1; omega⟩) h
theorem bad_len {c : Int} {rows : List (List Int)} (h : ¬ Sz rows.length) : Bad c rows := .inl h
theorem bad_odd {c : Int} {rows : List (List Int)} (h : ∃ r ∈ rows, r.length % 2 = 1) : Bad c rows := by
  obtain ⟨r, hr, ho⟩ := h
  cases rows with
  | nil => simp at hr
  | cons r0 rest =>
    refine .inr ⟨r0, rest, rfl, ?_⟩
    by_cases z : r0.length % 2 = 1
    · exact .inl fun q => by unfold Sz at q; omega
    · exact .inr ⟨r, hr, fun q => z (by rw [← q.1]; exact ho)⟩
theorem row_len {tb : List (Str × Int)} {x : Str} : (rowT tb x).length = x.length := by unfold rowT sgn; rw [List.length_map, List.length_map]; rfl
section
variable {s0 s1 s2 s3 s4 s5 s7 : Option Slot}
noncomputable def vN : Slot → D := fun s => match s with
  | .val (.str x) => .str (x ++ nl)
  | _ => .non
theorem cpB {bad : List Str} (h1 : ∀ x ∈ bad, x.length ≤ 10) (h2 : bad.length ≤ 10) : c0__law_bad_board [s0, s1, s2, s3, s4, s5, some (.own (bad.map D.str)), s7, none] = some (.of (.own ((bad.map (· ++ nl)).map D.str)), [s0, s1, s2, s3, s4, s5, some (.fz (bad.map D.str)), s7, none]) := by
  unfold c0__law_bad_board
  rw [snl]
  have e0 : (bad.map (· ++ nl)).map D.str = ((bad.map D.str).map Slot.val).map vN := by
    rw [List.map_map, List.map_map, List.map_map]
    rfl
  rw [e0]
  refine mComp_setN _ (its := (bad.map D.str).map Slot.val) ?_ (by simp) rfl (by rw [List.length_map, List.length_map]; unfold big; omega) (fun s hs => ?_) (fun s hs => ?_)
  · clear h1 h2 e0
    generalize bad.map D.str = ds at *
    walk_at "mi"
  · obtain ⟨d, _, rfl⟩ := List.mem_map.mp hs; rfl
  · obtain ⟨d, hd, rfl⟩ := List.mem_map.mp hs
    obtain ⟨x, hx, rfl⟩ := List.mem_map.mp hd
    have q := h1 x hx
    have q1 : nl.length = 1 := rfl
    have q2 : x.length + 1 < 1000000 := by omega
    clear hs hd hx h1 h2 e0 q
    unfold vN
    generalize nl = n1 at *
    generalize bad.map D.str = ds at *
    walk_at "mi"
end
end K17
namespace K17
open PySem L2 Mi Sh Tx
noncomputable abbrev cmB (ds : List D) (c x way : Int) (y a : Nat) (s7 : Option Slot) (bd js : List D) : Prop := c0__law_bad_board [some (.fz ds), some (.val (.int c)), some (.val (.int x)), some (.val (.int way)), some (.val (.int y)), some (.val (.int a)), some (.own bd), s7, none] =
  some (.of (.own js), [some (.fz ds), some (.val (.int c)), some (.val (.int x)), some (.val (.int way)), some (.val (.int y)), some (.val (.int a)), some (.fz bd), s7, none])
structure SB (ds : List D) (x : Int) (h w y a : Nat) (X : Str) : Prop where
  hl : ds.length = h
  hy : x / 6 % (h : Int) = (y : Int)
  e1 : atI ds (y : Int) = some (.str X)
  ix : ixN h (y : Int) = some y
  p1 : 0 < h
  p2 : (0 : Int) < (w : Int) + 1
  lx : X.length = w
  lw : w < 1000000
  ha : x / 48 % ((w : Int) + 1) = (a : Int)
structure SJ (js : List D) (ys : List Str) : Prop where
  j1 : strsOf js = some ys
  j2 : (ys.map (·.length)).sum + ys.length ≤ 1048576
noncomputable abbrev bh4 (ds bd : List D) (c x way : Int) (y a : Nat) (s7 : Option Slot) : En := [some (.fz ds), some (.val (.int c)), some (.val (.int x)), some (.val (.int way)), some (.val (.int y)), some (.val (.int a)), some (.own bd), s7, none]
section
variable {ds js bd : List D} {c x way : Int} {h w y a b : Nat} {X P Q sg : Str} {ys : List Str} {s7 : Option Slot}
theorem preB (S : SB ds x h w y a X) (hx : x % 6 = way) {d : D} (hr : r0__law_bad_board (bh4 ds ds c x way y a none) = some (.rt (.val d))) : F__law_bad_board [.fz ds, .val (.int c), .val (.int x)] = some (.val d) := by
  obtain ⟨hl, hy, e1, ix, p1, p2, lx, lw, ha⟩ := S
  unfold F__law_bad_board m__law_bad_board
  unfold bh4 at hr
  generalize r0__law_bad_board = rq at *
  walk_at "mi"
theorem finW (J : SJ js ys) (cm : cmB ds c x way y b s7 bd js) (hi : i4__law_bad_board (bh4 ds ds c x way y a none) = some (.nx (bh4 ds bd c x way y b s7))) : r0__law_bad_board (bh4 ds ds c x way y a none) = some (.rt (.val (.str (Txt.join Str.empty ys)))) := by
  obtain ⟨j1, j2⟩ := J
  have j4 : Str.empty.length ≤ 16 := by decide
  unfold cmB at cm
  unfold r0__law_bad_board
  rw [sem]
  unfold bh4 at *
  generalize Str.empty = em at *
  generalize i4__law_bad_board = iq at *
  walk_at "mi"
theorem sbi4 (hw : way ≠ 0) : i4__law_bad_board (bh4 ds bd c x way y a s7) = i3__law_bad_board (bh4 ds bd c x way y a s7) := by
  unfold bh4 i4__law_bad_board
  generalize i3__law_bad_board = iq at *
  walk_at "mi"
theorem sbi3 (hw : way ≠ 1) : i3__law_bad_board (bh4 ds bd c x way y a s7) = i2__law_bad_board (bh4 ds bd c x way y a s7) := by
  unfold bh4 i3__law_bad_board
  generalize i2__law_bad_board = iq at *
  walk_at "mi"
theorem sbi2 (hw : way ≠ 2) : i2__law_bad_board (bh4 ds bd c x way y a s7) = i1__law_bad_board (bh4 ds bd c x way y a s7) := by
  unfold bh4 i2__law_bad_board
  generalize i1__law_bad_board = iq at *
  walk_at "mi"
theorem sbi1 (hw : way ≠ 3) : i1__law_bad_board (bh4 ds bd c x way y a s7) = i0__law_bad_board (bh4 ds bd c x way y a s7) := by
  unfold bh4 i1__law_bad_board
  generalize i0__law_bad_board = iq at *
  walk_at "mi"
theorem wb0 (S : SB ds x h w y a X) (J : SJ js ys) (hx : x % 6 = 0) (cn : c.natAbs < 2 ^ 64) (sq : atI [D.str (tS c), D.str (Str.ofString "9"), D.str (Str.ofString " "), D.str (Str.ofString "-"), D.str (Str.ofString "_"), D.str (Str.ofString "a"), D.str (Str.ofString "+"), D.str (Str.ofString ".")] (x / 500 % 8) = some (.str sg))
    (l1 : Txt.slice X none (some (a : Int)) = P) (l2 : Txt.slice X (some (a : Int)) none = Q) (g1 : P.length + sg.length < 1000000) (g2 : P.length + sg.length + Q.length < 1000000) (cm : cmB ds c x 0 y a (some (.val (.str sg))) (ds.set y (.str (P ++ sg ++ Q))) js) :
    F__law_bad_board [.fz ds, .val (.int c), .val (.int x)] = some (.val (.str (Txt.join Str.empty ys))) := by
  refine preB S hx (finW J cm ?_)
  obtain ⟨hl, hy, e1, ix, p1, p2, lx, lw, ha⟩ := S
  clear J cm
  unfold bh4 i4__law_bad_board
  have ap := app_len
  generalize Str.ofString "9" = q0 at *
  generalize Str.ofString " " = q1 at *
  generalize Str.ofString "-" = q2 at *
  generalize Str.ofString "_" = q3 at *
  generalize Str.ofString "a" = q4 at *
  generalize Str.ofString "+" = q5 at *
  generalize Str.ofString "." = q6 at *
  have ts : Str.ofString c.repr = tS c := rfl
  generalize tS c = tc at *
  walk_at "mi"
theorem wb1 (S : SB ds x h w y a X) (J : SJ js ys) (hx : x % 6 = 1) (l1 : Txt.slice X none (some (a : Int)) = P) (l2 : Txt.slice X (some (a : Int)) none = Q) (g0 : (Str.ofString "0") = sg) (g1 : P.length + sg.length < 1000000) (g2 : P.length + sg.length + Q.length < 1000000) (cm : cmB ds c x 1 y a none (ds.set y (.str (P ++ sg ++ Q))) js) :
    F__law_bad_board [.fz ds, .val (.int c), .val (.int x)] = some (.val (.str (Txt.join Str.empty ys))) := by
  refine preB S hx (finW J cm ?_)
  obtain ⟨hl, hy, e1, ix, p1, p2, lx, lw, ha⟩ := S
  clear J cm
  rw [sbi4 (by decide)]
  unfold bh4 i3__law_bad_board
  have ap := app_len
  rw [g0]
  clear g0
  walk_at "mi"
theorem wb2 (S : SB ds x h w y a X) (J : SJ js ys) (hx : x % 6 = 2) (hz : h + h < 1000) (c1 : (cutD ds none (some 1)).length ≤ h)
    (hk : atI [R.of (.own (cutD ds none (some (-1)))), R.of (.own (ds ++ cutD ds none (some 1))), R.of (.own []), R.of (.own [.str Str.empty, .str Str.empty]), R.of (.own (ds ++ [.str Str.empty]))] (x / 500 % 5) = some (.of (.own bd))) (cm : cmB ds c x 2 y a none bd js) :
    F__law_bad_board [.fz ds, .val (.int c), .val (.int x)] = some (.val (.str (Txt.join Str.empty ys))) := by
  refine preB S hx (finW J cm ?_)
  obtain ⟨hl, hy, e1, ix, p1, p2, lx, lw, ha⟩ := S
  clear J cm
  rw [sbi4 (by decide), sbi3 (by decide)]
  unfold bh4 i2__law_bad_board
  have g1 : h + (cutD ds none (some 1)).length < 1000000 := by omega
  have g2 : h + 1 < 1000000 := by omega
  rw [sem]
  clear hz c1
  generalize Str.empty = em at *
  generalize d1 : cutD ds none (some 1) = u1 at *
  generalize d2 : cutD ds none (some (-1)) = u2 at *
  walk_at "mi"
theorem wb3 {zs : List Str} (S : SB ds x h w y a X) (J : SJ ds zs) (hx : x % 6 = 3) : F__law_bad_board [.fz ds, .val (.int c), .val (.int x)] = some (.val (.str (Txt.join nl zs))) := by
  refine preB S hx ?_
  obtain ⟨j1, j2⟩ := J
  have j4 : nl.length ≤ 16 := by decide
  unfold r0__law_bad_board sSeq
  rw [sbi4 (by decide), sbi3 (by decide), sbi2 (by decide)]
  unfold bh4 i1__law_bad_board
  rw [snl]
  clear S
  generalize nl = n1 at *
  walk_at "mi"
theorem wb4 (S : SB ds x h w y a X) (J : SJ js ys) (hx : x % 6 = 4) (hw : 0 < w) (hb : x / 48 % (w : Int) = (b : Int)) (cn : c.natAbs < 2 ^ 64) (sq : atI [D.str (tS c), D.str (Str.ofString "9"), D.str (Str.ofString " "), D.str (Str.ofString "-"), D.str (Str.ofString "_"), D.str (tS c)] (x / 500 % 6) = some (.str sg))
    (l1 : Txt.slice X none (some (b : Int)) = P) (l2 : Txt.slice X (some ((b : Int) + 1)) none = Q) (g1 : P.length + sg.length < 1000000) (g2 : P.length + sg.length + Q.length < 1000000) (cm : cmB ds c x 4 y b none (ds.set y (.str (P ++ sg ++ Q))) js) :
    F__law_bad_board [.fz ds, .val (.int c), .val (.int x)] = some (.val (.str (Txt.join Str.empty ys))) := by
  refine preB S hx (finW J cm ?_)
  obtain ⟨hl, hy, e1, ix, p1, p2, lx, lw, ha⟩ := S
  clear J cm
  rw [sbi4 (by decide), sbi3 (by decide), sbi2 (by decide), sbi1 (by decide)]
  unfold bh4 i0__law_bad_board
  have ap := app_len
  generalize Str.ofString "9" = q0 at *
  generalize Str.ofString " " = q1 at *
  generalize Str.ofString "-" = q2 at *
  generalize Str.ofString "_" = q3 at *
  have ts : Str.ofString c.repr = tS c := rfl
  generalize tS c = tc at *
  walk_at "mi"
theorem wb5 (S : SB ds x h w y a X) (J : SJ js ys) (hx : x % 6 = 5) (l1 : Txt.slice X none (some (-1)) = P) (cm : cmB ds c x 5 y a none (ds.set y (.str P)) js) :
    F__law_bad_board [.fz ds, .val (.int c), .val (.int x)] = some (.val (.str (Txt.join Str.empty ys))) := by
  refine preB S hx (finW J cm ?_)
  obtain ⟨hl, hy, e1, ix, p1, p2, lx, lw, ha⟩ := S
  clear J cm
  rw [sbi4 (by decide), sbi3 (by decide), sbi2 (by decide), sbi1 (by decide)]
  unfold bh4 i0__law_bad_board
  walk_at "mi"
end
end K17
namespace K17
open PySem L2 Mi Sh Tx
theorem sum10 : ∀ {A : List Str}, (∀ x ∈ A, x.length ≤ 10) → ((A.map (· ++ nl)).map (·.length)).sum ≤ 11 * A.length
  | [], _ => by simp
  | x :: A, h => by
    have h1 := h x (by simp)
    have h2 := sum10 (A := A) fun y hy => h y (by simp [hy])
    have q : nl.length = 1 := rfl
    simp only [List.map_cons, List.sum_cons, List.length_cons]
    rw [app_len]
    omega
theorem sj {A : List Str} (h : ∀ x ∈ A, x.length ≤ 10) (h2 : A.length ≤ 10) : SJ ((A.map (· ++ nl)).map D.str) (A.map (· ++ nl)) := by
  refine ⟨strsOf_map _, ?_⟩
  have := sum10 h
  rw [List.length_map (f := (· ++ nl))]
  omega
theorem sg8 {c : Nat} (hc : c = 2 ∨ c = 3) (x : Int) : ∃ sg ch, atI [D.str (tS c), D.str (Str.ofString "9"), D.str (Str.ofString " "), D.str (Str.ofString "-"), D.str (Str.ofString "_"), D.str (Str.ofString "a"), D.str (Str.ofString "+"), D.str (Str.ofString ".")] (x / 500 % 8) = some (.str sg) ∧ sg = Tx.mk [ch] ∧ ch < 128 ∧ ch ≠ 10 ∧ dat (Tx.mk [ch]) (wordsTab c) = none := by
  have h : x / 500 % 8 = 0 ∨ x / 500 % 8 = 1 ∨ x / 500 % 8 = 2 ∨ x / 500 % 8 = 3 ∨ x / 500 % 8 = 4 ∨ x / 500 % 8 = 5 ∨ x / 500 % 8 = 6 ∨ x / 500 % 8 = 7 := by omega
  rcases h with h | h | h | h | h | h | h | h <;> rw [h]
  · exact ⟨_, 48 + c, rfl, by rcases hc with rfl | rfl <;> decide +kernel⟩
  · exact ⟨_, 57, rfl, by rcases hc with rfl | rfl <;> decide +kernel⟩
  · exact ⟨_, 32, rfl, by rcases hc with rfl | rfl <;> decide +kernel⟩
  · exact ⟨_, 45, rfl, by rcases hc with rfl | rfl <;> decide +kernel⟩
  · exact ⟨_, 95, rfl, by rcases hc with rfl | rfl <;> decide +kernel⟩
  · exact ⟨_, 97, rfl, by rcases hc with rfl | rfl <;> decide +kernel⟩
  · exact ⟨_, 43, rfl, by rcases hc with rfl | rfl <;> decide +kernel⟩
  · exact ⟨_, 46, rfl, by rcases hc with rfl | rfl <;> decide +kernel⟩
theorem sg6 {c : Nat} (hc : c = 2 ∨ c = 3) (x : Int) : ∃ sg ch, atI [D.str (tS c), D.str (Str.ofString "9"), D.str (Str.ofString " "), D.str (Str.ofString "-"), D.str (Str.ofString "_"), D.str (tS c)] (x / 500 % 6) = some (.str sg) ∧ sg = Tx.mk [ch] ∧ ch < 128 ∧ ch ≠ 10 ∧ dat (Tx.mk [ch]) (wordsTab c) = none := by
  have h : x / 500 % 6 = 0 ∨ x / 500 % 6 = 1 ∨ x / 500 % 6 = 2 ∨ x / 500 % 6 = 3 ∨ x / 500 % 6 = 4 ∨ x / 500 % 6 = 5 := by omega
  rcases h with h | h | h | h | h | h <;> rw [h]
  · exact ⟨_, 48 + c, rfl, by rcases hc with rfl | rfl <;> decide +kernel⟩
  · exact ⟨_, 57, rfl, by rcases hc with rfl | rfl <;> decide +kernel⟩
  · exact ⟨_, 32, rfl, by rcases hc with rfl | rfl <;> decide +kernel⟩
  · exact ⟨_, 45, rfl, by rcases hc with rfl | rfl <;> decide +kernel⟩
  · exact ⟨_, 95, rfl, by rcases hc with rfl | rfl <;> decide +kernel⟩
  · exact ⟨_, 48 + c, rfl, by rcases hc with rfl | rfl <;> decide +kernel⟩
theorem not_good {tb : List (Str × Int)} {x : Str} {ch : Nat} (h : ch ∈ L x) (d : dat (Tx.mk [ch]) tb = none) : ¬ goodT tb x := fun g => by
  have := g (Tx.mk [ch]) (List.mem_map.mpr ⟨ch, h, rfl⟩)
  rw [d] at this
  cases this
structure RowP (w : Nat) (x : Str) : Prop where
  len : x.length = w
  sg : ∀ ch ∈ L x, 48 ≤ ch ∧ ch ≤ 50
theorem setP {bs : List Str} {y : Nat} {Z x : Str} (h : x ∈ bs.set y Z) : x ∈ bs ∨ x = Z := List.mem_or_eq_of_mem_set h
theorem set_in {bs : List Str} {y : Nat} {Z : Str} (h : y < bs.length) : Z ∈ bs.set y Z := List.mem_iff_getElem?.mpr ⟨y, by rw [List.getElem?_set_self h]⟩
theorem L_three (P Q : List Nat) (ch : Nat) : L (Tx.mk P ++ Tx.mk [ch] ++ Tx.mk Q) = P ++ [ch] ++ Q := by rw [L_app, L_app]; rfl
theorem cut_one {bs : List Str} : cutD (bs.map D.str) none (some 1) = (bs.take 1).map D.str := by
  unfold cutD HT.sIx
  simp only [List.length_map, List.drop_zero, Nat.sub_zero]
  rw [if_neg (by omega), List.map_take]
  cases bs with
  | nil => rfl
  | cons b r => simp
theorem pick5 {c w h y a : Nat} {bs bad : List Str} {X : Str} {x : Int} (hc : c = 2 ∨ c = 3) (hh : h = 2 ∨ h = 4 ∨ h = 6) (hb : bs.length = h) (S : SB (bs.map D.str) x h w y a X) (h6 : x % 6 = 2)
    (hk : atI [R.of (.own (cutD (bs.map D.str) none (some (-1)))), R.of (.own (bs.map D.str ++ cutD (bs.map D.str) none (some 1))), R.of (.own []), R.of (.own [.str Str.empty, .str Str.empty]), R.of (.own (bs.map D.str ++ [.str Str.empty]))] (x / 500 % 5) = some (.of (.own (bad.map D.str))))
    (h1 : ∀ z ∈ bad, z.length ≤ 10 ∧ ∀ ch ∈ L z, ch < 128 ∧ ch ≠ 10) (h2 : bad.length ≤ 10) (hB : Bad c (bad.map (rowT (wordsTab c)))) :
    ∃ T, F__law_bad_board [.fz (bs.map D.str), .val (.int c), .val (.int x)] = some (.val (.str T)) ∧ FX_read_board [.val (.str T), .val (.int c)] = some (.x "BadNote") := by
  refine ⟨textOf bad, ?_, finB hc h1 h2 (.inr hB)⟩
  refine wb2 S (sj (fun z hz => (h1 z hz).1) h2) h6 (by omega) (by rw [cut_one, List.length_map, List.length_take]; omega) hk ?_
  exact cpB (fun z hz => (h1 z hz).1) h2
structure BI (c w h y a : Nat) (bs : List Str) (X : Str) (x : Int) : Prop where
  hc : c = 2 ∨ c = 3
  hh : h = 2 ∨ h = 4 ∨ h = 6
  hb : bs.length = h
  S : SB (bs.map D.str) x h w y a X
  old : ∀ z ∈ bs, z.length ≤ 10 ∧ ∀ ch ∈ L z, ch < 128 ∧ ch ≠ 10
  l9 : bs.length ≤ 9
  l10 : bs.length ≤ 10
  le : bs.length % 2 = 0
  l2 : 2 ≤ bs.length
  yb : y < bs.length
  lX : (L X).length = w
  wl : w ≤ 6
  we : w % 2 = 0
  wp : 0 < w
  aw : a ≤ w
  sX : ∀ ch ∈ L X, ch < 128 ∧ ch ≠ 10
  nb : ∀ z ∈ bs, z.length = w
  cn : ((c : Nat) : Int).natAbs < 2 ^ 64
section
variable {c w h y a b : Nat} {bs : List Str} {X Z : Str} {x way : Int} {s7 : Option Slot}
noncomputable def OkZ (Z : Str) : Prop := Z.length ≤ 10 ∧ ∀ ch ∈ L Z, ch < 128 ∧ ch ≠ 10
theorem BI.new (I : BI c w h y a bs X x) (hZ : OkZ Z) : ∀ z ∈ bs.set y Z, z.length ≤ 10 ∧ ∀ ch ∈ L z, ch < 128 ∧ ch ≠ 10 := fun z hz => by
  rcases setP hz with q | q
  · exact I.old z q
  · rw [q]; exact hZ
theorem BI.sl (I : BI c w h y a bs X x) : (bs.set y Z).length ≤ 10 := by rw [List.length_set]; exact I.l10
theorem BI.J (I : BI c w h y a bs X x) (hZ : OkZ Z) : SJ (((bs.set y Z).map (· ++ nl)).map D.str) ((bs.set y Z).map (· ++ nl)) := sj (fun z hz => (I.new hZ z hz).1) I.sl
theorem BI.cm (I : BI c w h y a bs X x) (hZ : OkZ Z) : cmB (bs.map D.str) c x way y b s7 ((bs.map D.str).set y (.str Z)) (((bs.set y Z).map (· ++ nl)).map D.str) := by
  have cp := cpB (s0 := some (.fz (bs.map D.str))) (s1 := some (.val (.int c))) (s2 := some (.val (.int x))) (s3 := some (.val (.int way))) (s4 := some (.val (.int y))) (s5 := some (.val (.int b))) (s7 := s7) (bad := bs.set y Z) (fun z hz => (I.new hZ z hz).1) I.sl
  rw [List.map_set] at cp
  exact cp
theorem BI.sign (I : BI c w h y a bs X x) (hZ : OkZ Z) (g : ¬ goodT (wordsTab c) Z) : FX_read_board [.val (.str (textOf (bs.set y Z))), .val (.int c)] = some (.x "BadNote") :=
  finB I.hc (I.new hZ) I.sl (.inl ⟨Z, set_in I.yb, g⟩)
theorem BI.odd (I : BI c w h y a bs X x) (hZ : OkZ Z) (g : Z.length % 2 = 1) : FX_read_board [.val (.str (textOf (bs.set y Z))), .val (.int c)] = some (.x "BadNote") :=
  finB I.hc (I.new hZ) I.sl (.inr (bad_odd ⟨rowT (wordsTab c) Z, List.mem_map.mpr ⟨Z, set_in I.yb, rfl⟩, by rw [row_len]; exact g⟩))
noncomputable abbrev zz (X : Str) (p q ch : Nat) : Str := Tx.mk ((L X).take p) ++ Tx.mk [ch] ++ Tx.mk ((L X).drop q)
theorem BI.zl (I : BI c w h y a bs X x) {p q ch : Nat} (hp : p ≤ w) : (zz X p q ch).length = p + 1 + (w - q) := by
  unfold zz
  rw [len_L, L_three, List.length_append, List.length_append, List.length_take, List.length_drop, I.lX, Nat.min_eq_left hp]
  rfl
theorem BI.zo (I : BI c w h y a bs X x) {p q ch : Nat} (hp : p ≤ w) (hq : p ≤ q) (h1 : ch < 128) (h2 : ch ≠ 10) : OkZ (zz X p q ch) := by
  have sX := I.sX
  refine ⟨?_, fun d hd => ?_⟩
  · have := I.wl
    rw [I.zl hp]
    clear sX I
    omega
  · rw [L_three] at hd
    rcases List.mem_append.mp hd with hd | hd
    · rcases List.mem_append.mp hd with hd | hd
      · exact sX d (List.mem_of_mem_take hd)
      · have : d = ch := by simpa using hd
        rw [this]; exact ⟨h1, h2⟩
    · exact sX d (List.mem_of_mem_drop hd)
theorem zm {p q ch : Nat} : ch ∈ L (zz X p q ch) := by
  rw [L_three]
  simp
theorem BI.gs (I : BI c w h y a bs X x) {p q ch : Nat} (hp : p ≤ w) : (Tx.mk ((L X).take p)).length + (Tx.mk [ch]).length < 1000000 ∧ (Tx.mk ((L X).take p)).length + (Tx.mk [ch]).length + (Tx.mk ((L X).drop q)).length < 1000000 := by
  have wl := I.wl
  have lX := I.lX
  rw [len_mk, len_mk, len_mk, List.length_take, List.length_drop, lX]
  clear lX I
  show min p w + 1 < 1000000 ∧ min p w + 1 + (w - q) < 1000000
  omega
theorem BI.xa (I : BI c w h y a bs X x) {p : Nat} (hp : p ≤ w) : p ≤ X.length := by rw [show X.length = w from I.lX]; exact hp
noncomputable abbrev BadB (c : Nat) (bs : List Str) (x : Int) : Prop := ∃ T, F__law_bad_board [.fz (bs.map D.str), .val (.int c), .val (.int x)] = some (.val (.str T)) ∧ FX_read_board [.val (.str T), .val (.int c)] = some (.x "BadNote")
theorem bb0 (I : BI c w h y a bs X x) (h6 : x % 6 = 0) : BadB c bs x := by
  obtain ⟨sg, ch, e1, rfl, c1, c2, c3⟩ := sg8 I.hc x
  have ok := I.zo (q := a) I.aw (Nat.le_refl _) c1 c2
  exact ⟨_, wb0 I.S (I.J ok) h6 I.cn e1 (sl_to (I.xa I.aw)) (sl_from (I.xa I.aw)) (I.gs (q := a) I.aw).1 (I.gs I.aw).2 (I.cm ok), I.sign ok (not_good zm c3)⟩
theorem bb1 (I : BI c w h y a bs X x) (h6 : x % 6 = 1) : BadB c bs x := by
  have ok := I.zo (q := a) (ch := 48) I.aw (Nat.le_refl _) (by decide) (by decide)
  refine ⟨_, wb1 I.S (I.J ok) h6 (sl_to (I.xa I.aw)) (sl_from (I.xa I.aw)) (sg := Tx.mk [48]) (by decide +kernel) (I.gs (q := a) I.aw).1 (I.gs I.aw).2 (I.cm ok), I.odd ok ?_⟩
  have we := I.we
  have aw := I.aw
  rw [I.zl I.aw]
  clear I ok
  omega
theorem emZ : ∀ z ∈ ([Tx.mk []] : List Str), z.length ≤ 10 ∧ ∀ ch ∈ L z, ch < 128 ∧ ch ≠ 10 := fun z hz => by
  have : z = Tx.mk [] := by simpa using hz
  rw [this]
  exact ⟨by decide, fun ch hch => by simp [L_mk] at hch⟩
theorem BI.ne (I : BI c w h y a bs X x) : bs ≠ [] := fun z => by
  have := I.yb
  rw [z] at this
  exact Nat.not_lt_zero _ this
theorem odd_no {n : Nat} (h : n % 2 = 1) : ¬ Sz n := fun q => by
  have := q.2.2
  omega
theorem bb2 (I : BI c w h y a bs X x) (h6 : x % 6 = 2) : BadB c bs x := by
  have h5 : x / 500 % 5 = 0 ∨ x / 500 % 5 = 1 ∨ x / 500 % 5 = 2 ∨ x / 500 % 5 = 3 ∨ x / 500 % 5 = 4 := by
    generalize x / 500 = k
    clear I h6
    omega
  have le := I.le
  have l2 := I.l2
  have l9 := I.l9
  rcases h5 with h5 | h5 | h5 | h5 | h5
  · refine pick5 (bad := bs.dropLast) I.hc I.hh I.hb I.S h6 ?_ (fun z hz => I.old z (List.dropLast_subset _ hz)) ?_ (bad_len (odd_no ?_))
    · rw [h5]
      have e := cut_last (A := bs.dropLast) (x := bs.getLast I.ne)
      rw [List.dropLast_concat_getLast I.ne] at e
      rw [e]
      rfl
    · rw [List.length_dropLast]
      clear I h5 h6 le l2
      omega
    · rw [List.length_map, List.length_dropLast]
      clear I h5 h6 l9
      omega
  · refine pick5 (bad := bs ++ bs.take 1) I.hc I.hh I.hb I.S h6 ?_ (fun z hz => I.old z ((List.mem_append.mp hz).elim id List.mem_of_mem_take)) ?_ (bad_len (odd_no ?_))
    · rw [h5, cut_one, ← List.map_append]
      rfl
    · rw [List.length_append, List.length_take]
      clear I h5 h6 le
      omega
    · rw [List.length_map, List.length_append, List.length_take]
      clear I h5 h6 l9
      omega
  · refine pick5 (bad := []) I.hc I.hh I.hb I.S h6 ?_ (by simp) (by simp) (bad_len (by unfold Sz; simp))
    rw [h5]
    rfl
  · refine pick5 (bad := [Tx.mk [], Tx.mk []]) I.hc I.hh I.hb I.S h6 ?_ (fun z hz => emZ z (by simpa using hz)) (by simp) (.inr ⟨[], [[]], rfl, .inl (by unfold Sz; simp)⟩)
    rw [h5]
    rfl
  · refine pick5 (bad := bs ++ [Tx.mk []]) I.hc I.hh I.hb I.S h6 ?_ (fun z hz => (List.mem_append.mp hz).elim (I.old z) (emZ z)) ?_ (bad_len (odd_no ?_))
    · rw [h5, List.map_append]
      rfl
    · rw [List.length_append]
      exact Nat.succ_le_succ l9
    · rw [List.length_map, List.length_append]
      clear I h5 h6 l9
      show (bs.length + 1) % 2 = 1
      omega
theorem sumL : ∀ {A : List Str}, (∀ z ∈ A, z.length ≤ 10) → (A.map (·.length)).sum ≤ 10 * A.length
  | [], _ => by simp
  | z :: A, q => by
    have q1 := q z (by simp)
    have q2 := sumL (A := A) fun v hv => q v (by simp [hv])
    simp only [List.map_cons, List.sum_cons, List.length_cons]
    clear q
    omega
theorem bb3 (I : BI c w h y a bs X x) (h6 : x % 6 = 3) : BadB c bs x := by
  have e := List.dropLast_concat_getLast I.ne
  have m := List.getLast_mem I.ne
  have sg := (I.old _ m).2
  have ln := I.nb _ m
  have l9 := I.l9
  have sl := sumL fun z hz => (I.old z hz).1
  have free : ∀ p ∈ bs, 10 ∉ L p := fun p hp z => ((I.old p hp).2 10 z).2 rfl
  refine ⟨Txt.join nl bs, wb3 I.S ⟨strsOf_map _, ?_⟩ h6, rbY (A := bs.dropLast) (z := bs.getLast I.ne) ?_ ?_ ?_ ?_ ?_⟩
  · clear sg ln free e m h6
    clear I
    omega
  · rw [e, join_eq]
    exact split_join I.ne free
  · intro z
    rw [z] at ln
    have : (0 : Nat) = w := ln
    have := I.wp
    omega
  · exact sok (l := L (bs.getLast I.ne)) fun ch hch => Nat.lt_trans (sg ch hch).1 (by decide)
  · rw [join_eq, len_L, L_join]
    have q1 := J_len (c := 10) (bs.map L)
    have e' : ((bs.map L).map List.length) = bs.map (·.length) := by rw [List.map_map]; rfl
    rw [e', List.length_map (f := L)] at q1
    clear sg ln free m h6 e e'
    clear I
    omega
  · rw [List.length_dropLast]
    clear sg ln free m h6 e sl
    clear I
    omega
theorem bb4 (I : BI c w h y a bs X x) (h6 : x % 6 = 4) : BadB c bs x := by
  have wp := I.wp
  obtain ⟨b, hb4⟩ : ∃ b : Nat, x / 48 % (w : Int) = (b : Int) := ⟨(x / 48 % (w : Int)).toNat, by have := Int.emod_nonneg (x / 48) (b := (w : Int)) (by clear I h6; omega); clear I h6 wp; omega⟩
  have hb2 : b < w := by
    have := Int.emod_lt_of_pos (x / 48) (b := (w : Int)) (by clear I h6; omega)
    clear I h6 wp
    omega
  obtain ⟨sg, ch, e1, rfl, c1, c2, c3⟩ := sg6 I.hc x
  have ok := I.zo (q := b + 1) (Nat.le_of_lt hb2) (Nat.le_succ _) c1 c2
  exact ⟨_, wb4 I.S (I.J ok) h6 wp hb4 I.cn e1 (sl_to (I.xa (Nat.le_of_lt hb2))) (sl_from (x := X) (a := b + 1) (I.xa hb2)) (I.gs (q := b + 1) (Nat.le_of_lt hb2)).1 (I.gs (Nat.le_of_lt hb2)).2 (I.cm ok), I.sign ok (not_good zm c3)⟩
theorem bb5 (I : BI c w h y a bs X x) (h6 : x % 6 = 5) : BadB c bs x := by
  have wp := I.wp
  have we := I.we
  have wl := I.wl
  have sl := sl_last (x := X) (I.xa (Nat.succ_le_of_lt wp))
  rw [show X.length = w from I.lX] at sl
  have lZ : (Tx.mk ((L X).take (w - 1))).length = w - 1 := by rw [len_mk, List.length_take, I.lX]; exact Nat.min_eq_left (Nat.sub_le _ _)
  have ok : OkZ (Tx.mk ((L X).take (w - 1))) := ⟨by rw [lZ]; clear I lZ sl; omega, fun ch hch => I.sX ch (List.mem_of_mem_take hch)⟩
  refine ⟨_, wb5 I.S (I.J ok) h6 sl (I.cm ok), I.odd ok ?_⟩
  rw [lZ]
  clear I lZ sl ok
  omega
end
theorem bad_board {c w h : Nat} {bs : List Str} (hc : c = 2 ∨ c = 3) (hw : w = 2 ∨ w = 4 ∨ w = 6) (hh : h = 2 ∨ h = 4 ∨ h = 6) (hb : bs.length = h) (hr : ∀ x ∈ bs, RowP w x) (x : Int) : BadB c bs x := by
  have h0 : 2 ≤ h ∧ h ≤ 6 ∧ h % 2 = 0 := by clear hc hw; omega
  have w0 : 2 ≤ w ∧ w ≤ 6 ∧ w % 2 = 0 := by clear hc hh h0; omega
  obtain ⟨h1, h2, h3⟩ := h0
  obtain ⟨w1, w2, w3⟩ := w0
  clear hw
  have cn : ((c : Nat) : Int).natAbs < 2 ^ 64 := by rcases hc with rfl | rfl <;> decide
  obtain ⟨y, hy⟩ : ∃ y : Nat, x / 6 % (h : Int) = (y : Int) := ⟨(x / 6 % (h : Int)).toNat, by have := Int.emod_nonneg (x / 6) (b := (h : Int)) (by clear hc hh; omega); clear hc hh h1 h2 h3 w1 w2 w3; omega⟩
  have hy2 : y < h := by
    have := Int.emod_lt_of_pos (x / 6) (b := (h : Int)) (by clear hc hh; omega)
    clear hc hh h1 h2 h3 w1 w2 w3
    omega
  obtain ⟨a, ha⟩ : ∃ a : Nat, x / 48 % ((w : Int) + 1) = (a : Int) := ⟨(x / 48 % ((w : Int) + 1)).toNat, by have := Int.emod_nonneg (x / 48) (b := (w : Int) + 1) (by clear hc hh hy; omega); clear hc hh h1 h2 h3 w1 w2 w3 hy hy2; omega⟩
  have ha2 : a ≤ w := by
    have := Int.emod_lt_of_pos (x / 48) (b := (w : Int) + 1) (by clear hc hh hy; omega)
    clear hc hh h1 h2 h3 w1 w2 w3 hy hy2
    omega
  obtain ⟨X, hX⟩ : ∃ X, bs[y]? = some X := ⟨_, List.getElem?_eq_getElem (by rw [hb]; exact hy2)⟩
  have RX := hr X (List.mem_of_getElem? hX)
  have S : SB (bs.map D.str) x h w y a X := by
    refine ⟨by rw [List.length_map]; exact hb, hy, atI_nat (by rw [List.getElem?_map, hX]; rfl), ?_, Nat.lt_of_lt_of_le (by decide) h1, by clear hc hh hy ha; omega, RX.len, Nat.lt_of_le_of_lt w2 (by decide), ha⟩
    have := ixN_int (n := h) (k := (y : Int)) (by clear hc hh hy ha; omega) (by clear hc hh hy ha; omega)
    simpa using this
  have old : ∀ z ∈ bs, z.length ≤ 10 ∧ ∀ ch ∈ L z, ch < 128 ∧ ch ≠ 10 := fun z hz => ⟨by rw [(hr z hz).len]; exact Nat.le_trans w2 (by decide), fun ch hch => by have := (hr z hz).sg ch hch; clear hc hh hy ha h1 h2 h3 w1 w2 w3; omega⟩
  have I : BI c w h y a bs X x := ⟨hc, hh, hb, S, old, by rw [hb]; exact Nat.le_trans h2 (by decide), by rw [hb]; exact Nat.le_trans h2 (by decide), by rw [hb]; exact h3, by rw [hb]; exact h1, by rw [hb]; exact hy2, RX.len, w2, w3, Nat.lt_of_lt_of_le (by decide) w1, ha2, (old X (List.mem_of_getElem? hX)).2, fun z hz => (hr z hz).len, cn⟩
  have h6 : x % 6 = 0 ∨ x % 6 = 1 ∨ x % 6 = 2 ∨ x % 6 = 3 ∨ x % 6 = 4 ∨ x % 6 = 5 := by
    clear I S RX hc hh hy ha h1 h2 h3 w1 w2 w3 cn
    omega
  rcases h6 with h6 | h6 | h6 | h6 | h6 | h6
  · exact bb0 I h6
  · exact bb1 I h6
  · exact bb2 I h6
  · exact bb3 I h6
  · exact bb4 I h6
  · exact bb5 I h6
end K17
namespace K17
open PySem L2 Mi Sh Tx
noncomputable abbrev rh4 (r ds : List D) (c x way : Int) (a : Nat) (hd : Str) (s7 s8 : Option Slot) : En := [some (.fz r), some (.val (.int c)), some (.val (.int x)), some (.own ds), some (.val (.str hd)), some (.val (.int way)), some (.val (.int a)), s7, s8, none]
structure SR (r ds : List D) (c x : Int) (N a : Nat) (ru tc hh : Str) : Prop where
  cw : c0__law_bad_rule [some (.fz r), some (.val (.int c)), some (.val (.int x)), none, none, none, none, none, none, none] = some (.of (.own ds), [some (.fz r), some (.val (.int c)), some (.val (.int x)), none, none, none, none, none, none, none])
  hl : ds.length = N
  ha : x / 9 % (N : Int) = (a : Int)
  ix : ixN N (a : Int) = some a
  p1 : 0 < N
  cn : c.natAbs < 2 ^ 64
  er : Str.ofString "rule " = ru
  et : tS c = tc
  eh : ru ++ tc = hh
  k2 : ru.length = 5
  k3 : tc.length = 1
structure SK (js : List D) (ws : List Str) (hd t : Str) : Prop where
  j1 : strsOf js = some ws
  j2 : (ws.map (·.length)).sum + ws.length ≤ 1048576
  j3 : Txt.join ⟨#[32]⟩ ws = t
  g1 : hd.length + 1 < 1000000
  g2 : hd.length + 1 + t.length < 1000000
  g3 : hd.length + 1 + t.length + 1 < 1000000
section
variable {r ds js : List D} {c x way : Int} {N a : Nat} {ru tc hh hd t w : Str} {ws : List Str} {s7 s8 : Option Slot}
theorem preR (S : SR r ds c x N a ru tc hh) (hx : x % 9 = way) {d : D} (hr : r0__law_bad_rule (rh4 r ds c x way a hh none none) = some (.rt (.val d))) : F__law_bad_rule [.fz r, .val (.int c), .val (.int x)] = some (.val d) := by
  obtain ⟨cw, hl, ha, ix, p1, cn, er, et, eh, k2, k3⟩ := S
  have ts : Str.ofString c.repr = tS c := rfl
  rw [et] at ts
  unfold F__law_bad_rule m__law_bad_rule
  rw [er]
  clear er et
  unfold rh4 at hr
  generalize r0__law_bad_rule = rq at *
  walk_at "mi"
theorem finR (J : SK js ws hd t) (hi : i7__law_bad_rule (rh4 r ds c x way a hh none none) = some (.nx (rh4 r js c x way a hd s7 s8))) : r0__law_bad_rule (rh4 r ds c x way a hh none none) = some (.rt (.val (.str (hd ++ nl ++ t ++ nl)))) := by
  obtain ⟨j1, j2, j3, g1, g2, g3⟩ := J
  have j4 : (⟨#[32]⟩ : Str).length ≤ 16 := by decide
  have k4 : nl.length = 1 := rfl
  have ap := app_len
  unfold r0__law_bad_rule
  rw [snl, ssp]
  unfold rh4 at *
  generalize nl = n1 at *
  generalize (⟨#[32]⟩ : Str) = sp at *
  generalize i7__law_bad_rule = iq at *
  walk_at "mi"
theorem ski7 (hw : way ≠ 0) : i7__law_bad_rule (rh4 r ds c x way a hd s7 s8) = i6__law_bad_rule (rh4 r ds c x way a hd s7 s8) := by
  unfold rh4 i7__law_bad_rule
  generalize i6__law_bad_rule = iq at *
  walk_at "mi"
theorem ski6 (hw : way ≠ 1) : i6__law_bad_rule (rh4 r ds c x way a hd s7 s8) = i5__law_bad_rule (rh4 r ds c x way a hd s7 s8) := by
  unfold rh4 i6__law_bad_rule
  generalize i5__law_bad_rule = iq at *
  walk_at "mi"
theorem ski5 (hw : way ≠ 2) : i5__law_bad_rule (rh4 r ds c x way a hd s7 s8) = i4__law_bad_rule (rh4 r ds c x way a hd s7 s8) := by
  unfold rh4 i5__law_bad_rule
  generalize i4__law_bad_rule = iq at *
  walk_at "mi"
theorem ski4 (hw : way ≠ 3) : i4__law_bad_rule (rh4 r ds c x way a hd s7 s8) = i3__law_bad_rule (rh4 r ds c x way a hd s7 s8) := by
  unfold rh4 i4__law_bad_rule
  generalize i3__law_bad_rule = iq at *
  walk_at "mi"
theorem ski3 (hw : way ≠ 4) : i3__law_bad_rule (rh4 r ds c x way a hd s7 s8) = i2__law_bad_rule (rh4 r ds c x way a hd s7 s8) := by
  unfold rh4 i3__law_bad_rule
  generalize i2__law_bad_rule = iq at *
  walk_at "mi"
theorem ski2 (hw : way ≠ 5) : i2__law_bad_rule (rh4 r ds c x way a hd s7 s8) = i1__law_bad_rule (rh4 r ds c x way a hd s7 s8) := by
  unfold rh4 i2__law_bad_rule
  generalize i1__law_bad_rule = iq at *
  walk_at "mi"
theorem ski1 (hw : way ≠ 7) : i1__law_bad_rule (rh4 r ds c x way a hd s7 s8) = i0__law_bad_rule (rh4 r ds c x way a hd s7 s8) := by
  unfold rh4 i1__law_bad_rule
  generalize i0__law_bad_rule = iq at *
  walk_at "mi"
theorem wr0 (S : SR r ds c x N a ru tc hh) (J : SK ds ws hd t) (hx : x % 9 = 0) (hk : atI [D.str (Str.ofString ""), D.str (Str.ofString "rule"), D.str (Str.ofString "rule 4"), D.str (Str.ofString "rule 1"), D.str (Str.ofString "Rule 2"), D.str (Str.ofString "rule  2"), D.str (Str.ofString "rule 2 "), D.str (Str.ofString " rule 2"), D.str (Str.ofString "rule 02"), D.str (Str.ofString "rules 2"), D.str (Str.ofString "2")] (x / 700 % 11) = some (.str hd)) :
    F__law_bad_rule [.fz r, .val (.int c), .val (.int x)] = some (.val (.str (hd ++ nl ++ t ++ nl))) := by
  refine preR S hx (finR (js := ds) (hd := hd) (s7 := some (.own [D.str (Str.ofString ""), D.str (Str.ofString "rule"), D.str (Str.ofString "rule 4"), D.str (Str.ofString "rule 1"), D.str (Str.ofString "Rule 2"), D.str (Str.ofString "rule  2"), D.str (Str.ofString "rule 2 "), D.str (Str.ofString " rule 2"), D.str (Str.ofString "rule 02"), D.str (Str.ofString "rules 2"), D.str (Str.ofString "2")])) (s8 := none) J ?_)
  obtain ⟨cw, hl, ha, ix, p1, cn, er, et, eh, k2, k3⟩ := S
  unfold rh4 i7__law_bad_rule
  clear J cw
  generalize Str.ofString "" = q0 at *
  generalize Str.ofString "rule" = q1 at *
  generalize Str.ofString "rule 4" = q2 at *
  generalize Str.ofString "rule 1" = q3 at *
  generalize Str.ofString "Rule 2" = q4 at *
  generalize Str.ofString "rule  2" = q5 at *
  generalize Str.ofString "rule 2 " = q6 at *
  generalize Str.ofString " rule 2" = q7 at *
  generalize Str.ofString "rule 02" = q8 at *
  generalize Str.ofString "rules 2" = q9 at *
  generalize Str.ofString "2" = q10 at *
  walk_at "mi"
theorem wr1 (S : SR r ds c x N a ru tc hh) (J : SK (ds.set a (.str w)) ws hh t) (hx : x % 9 = 1) (hk : atI [D.str (Str.ofString ""), D.str (Str.ofString "-1"), D.str (Str.ofString "+1"), D.str (Str.ofString "00"), D.str (Str.ofString "1_0"), D.str (Str.ofString "x"), D.str (Str.ofString "81"), D.str (Str.ofString "100"), D.str (Str.ofString "1.0"), D.str (Str.ofString "-0"), D.str (Str.ofString "1e1")] (x / 700 % 11) = some (.str w)) :
    F__law_bad_rule [.fz r, .val (.int c), .val (.int x)] = some (.val (.str (hh ++ nl ++ t ++ nl))) := by
  refine preR S hx (finR (js := ds.set a (.str w)) (hd := hh) (s7 := none) (s8 := none) J ?_)
  obtain ⟨cw, hl, ha, ix, p1, cn, er, et, eh, k2, k3⟩ := S
  rw [ski7 (by decide)]
  unfold rh4 i6__law_bad_rule
  clear J cw
  generalize Str.ofString "" = q0 at *
  generalize Str.ofString "-1" = q1 at *
  generalize Str.ofString "+1" = q2 at *
  generalize Str.ofString "00" = q3 at *
  generalize Str.ofString "1_0" = q4 at *
  generalize Str.ofString "x" = q5 at *
  generalize Str.ofString "81" = q6 at *
  generalize Str.ofString "100" = q7 at *
  generalize Str.ofString "1.0" = q8 at *
  generalize Str.ofString "-0" = q9 at *
  generalize Str.ofString "1e1" = q10 at *
  walk_at "mi"
theorem wr2 {d : D} (S : SR r ds c x N a ru tc hh) (J : SK (ds.take a ++ d :: ds.drop a) ws hh t) (hx : x % 9 = 2) (hd0 : atI ds (a : Int) = some d) (b1 : (a : Int) < 4611686018427387904) (b2 : N < 1000000) :
    F__law_bad_rule [.fz r, .val (.int c), .val (.int x)] = some (.val (.str (hh ++ nl ++ t ++ nl))) := by
  refine preR S hx (finR (js := ds.take a ++ d :: ds.drop a) (hd := hh) (s7 := none) (s8 := none) J ?_)
  obtain ⟨cw, hl, ha, ix, p1, cn, er, et, eh, k2, k3⟩ := S
  rw [ski7 (by decide), ski6 (by decide)]
  unfold rh4 i5__law_bad_rule
  clear J cw
  walk_at "mi"
theorem wr3 {d : D} (S : SR r ds c x N a ru tc hh) (J : SK (ds.eraseIdx a) ws hh t) (hx : x % 9 = 3) (hd0 : ds[a]? = some d) (b2 : N < 1000000) :
    F__law_bad_rule [.fz r, .val (.int c), .val (.int x)] = some (.val (.str (hh ++ nl ++ t ++ nl))) := by
  refine preR S hx (finR (js := ds.eraseIdx a) (hd := hh) (s7 := none) (s8 := none) J ?_)
  obtain ⟨cw, hl, ha, ix, p1, cn, er, et, eh, k2, k3⟩ := S
  rw [ski7 (by decide), ski6 (by decide), ski5 (by decide)]
  unfold rh4 i4__law_bad_rule
  clear J cw
  walk_at "mi"
theorem wr4 {d : D} {b : Nat} (S : SR r ds c x N a ru tc hh) (J : SK (ds.set a d) ws hh t) (hx : x % 9 = 4) (p2 : (1 : Int) < (N : Int)) (hb : ((a : Int) + 1 + x / 700 % ((N : Int) - 1)) % (N : Int) = (b : Int)) (hd0 : atI ds (b : Int) = some d) :
    F__law_bad_rule [.fz r, .val (.int c), .val (.int x)] = some (.val (.str (hh ++ nl ++ t ++ nl))) := by
  refine preR S hx (finR (js := ds.set a d) (hd := hh) (s7 := none) (s8 := none) J ?_)
  obtain ⟨cw, hl, ha, ix, p1, cn, er, et, eh, k2, k3⟩ := S
  rw [ski7 (by decide), ski6 (by decide), ski5 (by decide), ski4 (by decide)]
  unfold rh4 i3__law_bad_rule
  clear J cw
  walk_at "mi"
theorem wr5 (S : SR r ds c x N a ru tc hh) (J : SK ds ws hh t) (hx : x % 9 = 5) :
    F__law_bad_rule [.fz r, .val (.int c), .val (.int x)] = some (.val (.str (hh ++ nl ++ t))) := by
  refine preR S hx ?_
  obtain ⟨cw, hl, ha, ix, p1, cn, er, et, eh, k2, k3⟩ := S
  obtain ⟨j1, j2, j3, g1, g2, g3⟩ := J
  have j4 : (⟨#[32]⟩ : Str).length ≤ 16 := by decide
  have k4 : nl.length = 1 := rfl
  have ap := app_len
  unfold r0__law_bad_rule sSeq
  rw [ski7 (by decide), ski6 (by decide), ski5 (by decide), ski4 (by decide), ski3 (by decide)]
  unfold rh4 i2__law_bad_rule
  rw [snl, ssp]
  clear cw
  generalize nl = n1 at *
  generalize (⟨#[32]⟩ : Str) = sp at *
  walk_at "mi"
theorem wr6 {mo : Str} (S : SR r ds c x N a ru tc hh) (J : SK ds ws hh t) (hx : x % 9 = 6) (hk : atI [D.str nl, D.str (Str.ofString "x\n"), D.str (Str.ofString " \n")] (x / 700 % 3) = some (.str mo)) (g4 : hh.length + 1 + t.length + 1 + mo.length < 1000000) :
    F__law_bad_rule [.fz r, .val (.int c), .val (.int x)] = some (.val (.str (hh ++ nl ++ t ++ nl ++ mo))) := by
  refine preR S hx ?_
  obtain ⟨cw, hl, ha, ix, p1, cn, er, et, eh, k2, k3⟩ := S
  obtain ⟨j1, j2, j3, g1, g2, g3⟩ := J
  have j4 : (⟨#[32]⟩ : Str).length ≤ 16 := by decide
  have k4 : nl.length = 1 := rfl
  have ap := app_len
  unfold r0__law_bad_rule sSeq
  rw [ski7 (by decide), ski6 (by decide), ski5 (by decide), ski4 (by decide), ski3 (by decide), ski2 (by decide), ski1 (by decide)]
  unfold rh4 i0__law_bad_rule
  rw [snl, ssp]
  clear cw
  generalize nl = n1 at *
  generalize (⟨#[32]⟩ : Str) = sp at *
  generalize Str.ofString "x\n" = q0 at *
  generalize Str.ofString " \n" = q1 at *
  walk_at "mi"
theorem wr7 {b : Nat} (S : SR r ds c x N a ru tc hh) (J : SK (ds.take b ++ .str Str.empty :: ds.drop b) ws hh t) (hx : x % 9 = 7) (hb : x / 9 % ((N : Int) + 1) = (b : Int)) (b1 : (b : Int) < 4611686018427387904) (b2 : N < 1000000) :
    F__law_bad_rule [.fz r, .val (.int c), .val (.int x)] = some (.val (.str (hh ++ nl ++ t ++ nl))) := by
  refine preR S hx (finR (js := ds.take b ++ .str Str.empty :: ds.drop b) (hd := hh) (s7 := none) (s8 := none) J ?_)
  obtain ⟨cw, hl, ha, ix, p1, cn, er, et, eh, k2, k3⟩ := S
  rw [ski7 (by decide), ski6 (by decide), ski5 (by decide), ski4 (by decide), ski3 (by decide), ski2 (by decide)]
  unfold rh4 i1__law_bad_rule
  clear J cw
  rw [sem]
  generalize Str.empty = em at *
  walk_at "mi"
theorem wr8 {c5 : Int} (S : SR r ds c x N a ru tc hh) (J : SK ds ws hd t) (hx : x % 9 = 8) (h5 : 5 - c = c5) (cn5 : c5.natAbs < 2 ^ 64) (e5 : tS c5 = w) (e6 : w.length = 1) (e7 : ru ++ w = hd) :
    F__law_bad_rule [.fz r, .val (.int c), .val (.int x)] = some (.val (.str (hd ++ nl ++ t ++ nl))) := by
  refine preR S hx (finR (js := ds) (hd := hd) (s7 := none) (s8 := none) J ?_)
  obtain ⟨cw, hl, ha, ix, p1, cn, er, et, eh, k2, k3⟩ := S
  have ts5 : Str.ofString c5.repr = tS c5 := rfl
  rw [e5] at ts5
  clear e5
  rw [ski7 (by decide), ski6 (by decide), ski5 (by decide), ski4 (by decide), ski3 (by decide), ski2 (by decide), ski1 (by decide)]
  unfold rh4 i0__law_bad_rule
  clear J cw
  rw [er]
  walk_at "mi"
end
end K17
namespace K17
open PySem L2 Mi Sh Tx
theorem nat_small {i : Int} (h : 0 ≤ i) (h2 : i < 1000) : i.natAbs < 2 ^ 64 := by
  have : i.natAbs < 1000 := by omega
  exact Nat.lt_trans this (by decide)
noncomputable def vS : Slot → D := fun s => match s with
  | .val (.int i) => .str (tS i)
  | _ => .non
theorem vS_map (r : List Int) : ((r.map D.int).map Slot.val).map vS = (r.map tS).map D.str := by
  rw [List.map_map, List.map_map, List.map_map]
  rfl
theorem cpR {rs : List Int} {c x : Int} (h : Small rs) (hz : rs.length ≤ 81) : c0__law_bad_rule [some (.fz (rs.map D.int)), some (.val (.int c)), some (.val (.int x)), none, none, none, none, none, none, none] = some (.of (.own ((rs.map tS).map D.str)), [some (.fz (rs.map D.int)), some (.val (.int c)), some (.val (.int x)), none, none, none, none, none, none, none]) := by
  unfold c0__law_bad_rule
  rw [← vS_map]
  refine mComp_setN _ (its := (rs.map D.int).map Slot.val) ?_ (by simp) rfl (by rw [List.length_map, List.length_map]; unfold big; omega) (fun s hs => ?_) (fun s hs => ?_)
  · clear h hz
    generalize rs.map D.int = ds at *
    walk_at "mi"
  · obtain ⟨d, _, rfl⟩ := List.mem_map.mp hs; rfl
  · obtain ⟨d, hd, rfl⟩ := List.mem_map.mp hs
    obtain ⟨z, hz', rfl⟩ := List.mem_map.mp hd
    have n1 := nat_small (h z hz').1 (by have := (h z hz').2; omega)
    unfold vS
    clear hs hd hz' h hz
    generalize rs.map D.int = ds at *
    walk_at "mi"
    rfl
structure WP (w : Str) : Prop where
  len : w.length ≤ 3
  sg : ∀ ch ∈ L w, ch < 128 ∧ ch ≠ 10 ∧ ch ≠ 32
theorem wpS {i : Int} (h : 0 ≤ i) (h2 : i < 81) : WP (tS i) := by
  obtain ⟨a, b⟩ := tS_figs h h2
  exact ⟨by rw [len_L]; omega, fun ch hch => by have := a ch hch; omega⟩
noncomputable abbrev jn (ws : List Str) : Str := Str.join ⟨#[32]⟩ ws
theorem sum3 : ∀ {A : List Str}, (∀ x ∈ A, WP x) → (A.map (·.length)).sum ≤ 3 * A.length
  | [], _ => by simp
  | x :: A, h => by
    have h1 := (h x (by simp)).len
    have h2 := sum3 (A := A) fun y hy => h y (by simp [hy])
    simp only [List.map_cons, List.sum_cons, List.length_cons]
    omega
theorem jn_len {A : List Str} (h : ∀ x ∈ A, WP x) : (jn A).length ≤ 4 * A.length := by
  have h1 := J_len (c := 32) (A.map L)
  have h2 := sum3 h
  rw [len_L, L_join]
  have e : ((A.map L).map List.length) = A.map (·.length) := by rw [List.map_map]; rfl
  rw [e] at h1
  simp only [List.length_map] at h1
  omega
theorem jn_free {A : List Str} (h : ∀ x ∈ A, WP x) : ∀ ch ∈ L (jn A), ch < 128 ∧ ch ≠ 10 := fun ch hc => by
  rw [L_join] at hc
  rcases J_mem hc with e | ⟨p, hp, e⟩
  · omega
  · obtain ⟨q, hq, rfl⟩ := List.mem_map.mp hp
    have := (h q hq).sg ch e
    omega
theorem jn_split {A : List Str} (hne : A ≠ []) (h : ∀ x ∈ A, WP x) : Txt.split (jn A) ⟨#[32]⟩ = A := split_join hne fun p hp z => ((h p hp).sg 32 z).2.2 rfl
theorem sk {A : List Str} {hd : Str} (h : ∀ x ∈ A, WP x) (h2 : A.length ≤ 90) (h3 : hd.length ≤ 10) : SK (A.map D.str) A hd (jn A) := by
  have s3 := sum3 h
  have jl := jn_len h
  exact ⟨strsOf_map _, by omega, join_eq _ _, by omega, by omega, by omega⟩
theorem cut3 {hd t : Str} (h1 : 10 ∉ L hd) (h2 : 10 ∉ L t) : Txt.split (hd ++ nl ++ t ++ nl) nl = [hd, t] ++ [Tx.mk []] := by
  have e : hd ++ nl ++ t ++ nl = Str.join nl [hd, t, Tx.mk []] := by
    refine ext ?_
    rw [L_join]
    simp only [L_app, List.map_cons, List.map_nil, J]
    simp [L_mk]
    rfl
  rw [e]
  refine split_join (by simp) fun p hp => ?_
  have hp : p = hd ∨ p = t ∨ p = Tx.mk [] := by simpa using hp
  rcases hp with rfl | rfl | rfl
  · exact h1
  · exact h2
  · simp [L_mk]
theorem cut2 {hd t : Str} (h1 : 10 ∉ L hd) (h2 : 10 ∉ L t) : Txt.split (hd ++ nl ++ t) nl = [hd] ++ [t] := by
  have e : hd ++ nl ++ t = Str.join nl [hd, t] := by
    refine ext ?_
    rw [L_join]
    simp only [L_app, List.map_cons, List.map_nil, J]
    simp
    rfl
  rw [e]
  refine split_join (by simp) fun p hp => ?_
  have hp : p = hd ∨ p = t := by simpa using hp
  rcases hp with rfl | rfl
  · exact h1
  · exact h2
theorem cut4 {hd t u : Str} (h1 : 10 ∉ L hd) (h2 : 10 ∉ L t) (h3 : 10 ∉ L u) : Txt.split (hd ++ nl ++ t ++ nl ++ (u ++ nl)) nl = [hd, t, u] ++ [Tx.mk []] := by
  have e : hd ++ nl ++ t ++ nl ++ (u ++ nl) = Str.join nl [hd, t, u, Tx.mk []] := by
    refine ext ?_
    rw [L_join]
    simp only [L_app, List.map_cons, List.map_nil, J]
    simp [L_mk]
    rfl
  rw [e]
  refine split_join (by simp) fun p hp => ?_
  have hp : p = hd ∨ p = t ∨ p = u ∨ p = Tx.mk [] := by simpa using hp
  rcases hp with rfl | rfl | rfl | rfl
  · exact h1
  · exact h2
  · exact h3
  · simp [L_mk]
theorem lenT {hd t : Str} : (hd ++ nl ++ t ++ nl).length = hd.length + 1 + t.length + 1 := by
  rw [app_len, app_len, app_len]
  rfl
theorem headP {c : Int} (hc : Bd.Col c) : (headS c).length = 6 ∧ 10 ∉ L (headS c) ∧ (Str.ofString "rule ").length = 5 ∧ (tS c).length = 1 := by rcases hc with rfl | rfl <;> decide +kernel
section
variable {A : List Str} {c : Int}
theorem finC {hd : Str} (h : ∀ x ∈ A, WP x) (h2 : A.length ≤ 90) (l : hd.length ≤ 10) (f : 10 ∉ L hd) (d : dat hd [("rule 2", 2), ("rule 3", 3)] = none) : FX_read_rule [.val (.str (hd ++ nl ++ jn A ++ nl))] = some (.x "BadNote") := by
  have jl := jn_len h
  exact rrC (cut3 f fun z => (jn_free h 10 z).2 rfl) (by rw [lenT]; omega) d
theorem finD (hc : Bd.Col c) (h : ∀ x ∈ A, WP x) (h2 : A.length ≤ 90) (d : ∃ w ∈ A, dat w (wordsTab (Bd.nOf c)) = none) : FX_read_rule [.val (.str (headS c ++ nl ++ jn A ++ nl))] = some (.x "BadNote") := by
  have jl := jn_len h
  obtain ⟨l, f, _, _⟩ := headP hc
  have hne : A ≠ [] := fun z => by obtain ⟨w, hw, _⟩ := d; rw [z] at hw; simp at hw
  exact rrD hc (cut3 f fun z => (jn_free h 10 z).2 rfl) (by rw [lenT]; omega) (by omega) (jn_split hne h) (by omega) d
theorem val_tS {N : Nat} (hN : N ≤ 81) {i : Int} (h : 0 ≤ i) (h2 : i < N) : dat (tS i) (wordsTab N) = some i := by
  obtain ⟨n, rfl⟩ := Int.eq_ofNat_of_zero_le h
  exact dat_words (by omega) hN
theorem finE {ns : List Int} {ex : Str} (hc : Bd.Col c) (hne : ns ≠ []) (h : ∀ z ∈ ns, 0 ≤ z ∧ z < (Bd.nOf c : Nat)) (h2 : ns.length ≤ 90) (he : ex = "NoRule" ∨ ex = "NotBack") (lk : FX_looked [.fz (ns.map D.int), .val (.int c)] = some (.x ex)) :
    FX_read_rule [.val (.str (headS c ++ nl ++ jn (ns.map tS) ++ nl))] = some (.x "BadNote") := by
  have hz : Bd.nOf c ≤ 81 := by unfold Bd.nOf; split <;> omega
  have hw : ∀ x ∈ ns.map tS, WP x := fun x hx => by
    obtain ⟨z, hz', rfl⟩ := List.mem_map.mp hx
    exact wpS (h z hz').1 (by have := (h z hz').2; omega)
  have jl := jn_len hw
  rw [List.length_map] at jl
  obtain ⟨l, f, _, _⟩ := headP hc
  refine rrE hc (cut3 f fun z => (jn_free hw 10 z).2 rfl) (by rw [lenT]; omega) (by omega) (jn_split (by simpa using hne) hw) (by rw [List.length_map]; omega) (fun w hx => ?_) he ?_
  · obtain ⟨z, hz', rfl⟩ := List.mem_map.mp hx
    rw [val_tS hz (h z hz').1 (h z hz').2]
    rfl
  · have e : (ns.map tS).map (valW (wordsTab (Bd.nOf c))) = ns := by
      rw [List.map_map]
      conv => rhs; rw [← List.map_id ns]
      apply List.map_congr_left
      intro z hz'
      show valW (wordsTab (Bd.nOf c)) (tS z) = z
      unfold valW
      rw [val_tS hz (h z hz').1 (h z hz').2]
      rfl
    rw [e]
    exact lk
end
theorem hd11 (x : Int) : ∃ hd, atI [D.str (Str.ofString ""), D.str (Str.ofString "rule"), D.str (Str.ofString "rule 4"), D.str (Str.ofString "rule 1"), D.str (Str.ofString "Rule 2"), D.str (Str.ofString "rule  2"), D.str (Str.ofString "rule 2 "), D.str (Str.ofString " rule 2"), D.str (Str.ofString "rule 02"), D.str (Str.ofString "rules 2"), D.str (Str.ofString "2")] (x / 700 % 11) = some (.str hd) ∧ hd.length ≤ 10 ∧ 10 ∉ L hd ∧ dat hd [("rule 2", 2), ("rule 3", 3)] = none := by
  have h : x / 700 % 11 = 0 ∨ x / 700 % 11 = 1 ∨ x / 700 % 11 = 2 ∨ x / 700 % 11 = 3 ∨ x / 700 % 11 = 4 ∨ x / 700 % 11 = 5 ∨ x / 700 % 11 = 6 ∨ x / 700 % 11 = 7 ∨ x / 700 % 11 = 8 ∨ x / 700 % 11 = 9 ∨ x / 700 % 11 = 10 := by omega
  rcases h with h | h | h | h | h | h | h | h | h | h | h <;> rw [h] <;> exact ⟨_, rfl, by decide +kernel⟩
theorem wd11 {c : Int} (hc : Bd.Col c) (x : Int) : ∃ w, atI [D.str (Str.ofString ""), D.str (Str.ofString "-1"), D.str (Str.ofString "+1"), D.str (Str.ofString "00"), D.str (Str.ofString "1_0"), D.str (Str.ofString "x"), D.str (Str.ofString "81"), D.str (Str.ofString "100"), D.str (Str.ofString "1.0"), D.str (Str.ofString "-0"), D.str (Str.ofString "1e1")] (x / 700 % 11) = some (.str w) ∧ w.length ≤ 3 ∧ (∀ ch ∈ L w, ch < 128 ∧ ch ≠ 10 ∧ ch ≠ 32) ∧ dat w (wordsTab (Bd.nOf c)) = none := by
  have h : x / 700 % 11 = 0 ∨ x / 700 % 11 = 1 ∨ x / 700 % 11 = 2 ∨ x / 700 % 11 = 3 ∨ x / 700 % 11 = 4 ∨ x / 700 % 11 = 5 ∨ x / 700 % 11 = 6 ∨ x / 700 % 11 = 7 ∨ x / 700 % 11 = 8 ∨ x / 700 % 11 = 9 ∨ x / 700 % 11 = 10 := by omega
  rcases hc with rfl | rfl <;> rcases h with h | h | h | h | h | h | h | h | h | h | h <;> rw [h] <;> exact ⟨_, rfl, by decide +kernel⟩
theorem mo3 (x : Int) : ∃ u, atI [D.str nl, D.str (Str.ofString "x\n"), D.str (Str.ofString " \n")] (x / 700 % 3) = some (.str (u ++ nl)) ∧ 10 ∉ L u ∧ u.length ≤ 1 := by
  have h : x / 700 % 3 = 0 ∨ x / 700 % 3 = 1 ∨ x / 700 % 3 = 2 := by omega
  rcases h with h | h | h <;> rw [h]
  · refine ⟨Tx.mk [], ?_, by decide +kernel⟩
    have : Tx.mk [] ++ nl = nl := by decide +kernel
    rw [this]
    rfl
  · refine ⟨Tx.mk [120], ?_, by decide +kernel⟩
    have : Tx.mk [120] ++ nl = Str.ofString "x\n" := by decide +kernel
    rw [this]
    rfl
  · refine ⟨Tx.mk [32], ?_, by decide +kernel⟩
    have : Tx.mk [32] ++ nl = Str.ofString " \n" := by decide +kernel
    rw [this]
    rfl
end K17
namespace K17
open PySem L2 Mi Sh Tx
theorem er_map {α β : Type} {f : α → β} : ∀ (l : List α) (n : Nat), (l.eraseIdx n).map f = (l.map f).eraseIdx n
  | [], _ => rfl
  | _ :: _, 0 => rfl
  | a :: l, n + 1 => by
    show f a :: (l.eraseIdx n).map f = f a :: (l.map f).eraseIdx n
    rw [er_map l n]
theorem dup_no {l : List Int} {a b : Nat} {v : Int} (ha : l[a]? = some v) (hb : l[b]? = some v) (h : a < b) : ¬ l.Nodup := fun q => by
  obtain ⟨h1, e1⟩ := List.getElem?_eq_some_iff.mp ha
  obtain ⟨h2, e2⟩ := List.getElem?_eq_some_iff.mp hb
  exact List.pairwise_iff_getElem.mp q a b h1 h2 h (by rw [e1, e2])
structure RI (c x : Int) (rs : List Int) (N a : Nat) (r : Int) : Prop where
  hc : Bd.Col c
  hN : Bd.nOf c = N
  hR : RuleOf N rs
  S : SR (rs.map D.int) ((rs.map tS).map D.str) c x N a (Str.ofString "rule ") (tS c) (headS c)
  n0 : 16 ≤ N
  n1 : N ≤ 81
  n9 : N ≤ 90
  hl : rs.length = N
  bd : ∀ z ∈ rs, 0 ≤ z ∧ z < (N : Nat)
  wp : ∀ w ∈ rs.map tS, WP w
  wl : (rs.map tS).length = N
  an : a < N
  hr : rs[a]? = some r
  h6 : (headS c).length = 6
  h10 : 10 ∉ L (headS c)
section
variable {c x r : Int} {rs : List Int} {N a : Nat}
noncomputable abbrev BadR (c : Int) (rs : List Int) (x : Int) : Prop := ∃ T, F__law_bad_rule [.fz (rs.map D.int), .val (.int c), .val (.int x)] = some (.val (.str T)) ∧ FX_read_rule [.val (.str T)] = some (.x "BadNote")
theorem RI.h9 (I : RI c x rs N a r) : (headS c).length ≤ 10 := by rw [I.h6]; decide
theorem RI.w9 (I : RI c x rs N a r) : (rs.map tS).length ≤ 90 := by rw [I.wl]; exact I.n9
theorem RI.big (I : RI c x rs N a r) : N < 1000000 := Nat.lt_of_le_of_lt I.n1 (by decide)
theorem RI.wp2 (I : RI c x rs N a r) {ns : List Int} (h : ∀ z ∈ ns, 0 ≤ z ∧ z < (N : Nat)) : ∀ v ∈ ns.map tS, WP v := fun w hw => by
  obtain ⟨z, hz, rfl⟩ := List.mem_map.mp hw
  have h1 := h z hz
  have h2 := I.n1
  clear h I
  exact wpS h1.1 (by omega)
theorem RI.fe (I : RI c x rs N a r) {ns : List Int} {ex : Str} (hne : ns ≠ []) (h : ∀ z ∈ ns, 0 ≤ z ∧ z < (N : Nat)) (h2 : ns.length ≤ 90) (he : ex = "NoRule" ∨ ex = "NotBack") (lk : FX_looked [.fz (ns.map D.int), .val (.int c)] = some (.x ex)) :
    FX_read_rule [.val (.str (headS c ++ nl ++ jn (ns.map tS) ++ nl))] = some (.x "BadNote") := finE I.hc hne (by rw [I.hN]; exact h) h2 he lk
theorem RI.lk (I : RI c x rs N a r) {ns : List Int} (h : ns.length ≠ N) : FX_looked [.fz (ns.map D.int), .val (.int c)] = some (.x "NoRule") := lk_len I.hc (by rw [I.hN]; exact h)
theorem br0 (I : RI c x rs N a r) (h9 : x % 9 = 0) : BadR c rs x := by
  obtain ⟨hd, e1, e2, e3, e4⟩ := hd11 x
  exact ⟨_, wr0 I.S (sk I.wp I.w9 e2) h9 e1, finC I.wp I.w9 e2 e3 e4⟩
theorem br1 (I : RI c x rs N a r) (h9 : x % 9 = 1) : BadR c rs x := by
  obtain ⟨w, e1, e2, e3, e4⟩ := wd11 I.hc x
  have wp' : ∀ v ∈ (rs.map tS).set a w, WP v := fun v hv => by
    rcases List.mem_or_eq_of_mem_set hv with q | q
    · exact I.wp v q
    · rw [q]; exact ⟨e2, e3⟩
  have l' : ((rs.map tS).set a w).length ≤ 90 := by rw [List.length_set]; exact I.w9
  have J := sk (hd := headS c) wp' l' I.h9
  rw [List.map_set] at J
  exact ⟨_, wr1 I.S J h9 e1, finD I.hc wp' l' ⟨w, set_in (by rw [I.wl]; exact I.an), e4⟩⟩
theorem br2 (I : RI c x rs N a r) (h9 : x % 9 = 2) : BadR c rs x := by
  have bd' : ∀ z ∈ rs.take a ++ r :: rs.drop a, 0 ≤ z ∧ z < (N : Nat) := fun z h => by
    rcases List.mem_append.mp h with h | h
    · exact I.bd z (List.mem_of_mem_take h)
    · rcases List.mem_cons.mp h with rfl | h
      · exact I.bd z (List.mem_of_getElem? I.hr)
      · exact I.bd z (List.mem_of_mem_drop h)
  have l2 : (rs.take a ++ r :: rs.drop a).length = N + 1 := by
    have h1 := I.an
    rw [List.length_append, List.length_take, List.length_cons, List.length_drop, I.hl]
    clear I bd'
    omega
  have l9 : (rs.take a ++ r :: rs.drop a).length ≤ 90 := by rw [l2]; exact Nat.le_trans (Nat.succ_le_succ I.n1) (by decide)
  have wp' := I.wp2 bd'
  have J := sk (hd := headS c) wp' (by rw [List.length_map]; exact l9) I.h9
  have e : ((rs.take a ++ r :: rs.drop a).map tS).map D.str = ((rs.map tS).map D.str).take a ++ D.str (tS r) :: ((rs.map tS).map D.str).drop a := by
    simp only [List.map_append, List.map_cons, List.map_take, List.map_drop]
  rw [e] at J
  have ab : (a : Int) < 4611686018427387904 := by
    have h1 := I.an
    have h2 := I.n1
    clear I J e wp' l2 l9 bd' h9
    omega
  exact ⟨_, wr2 I.S J h9 (atI_nat (by rw [List.getElem?_map, List.getElem?_map, I.hr]; rfl)) ab I.big, I.fe (by simp) bd' l9 (.inl rfl) (I.lk (by rw [l2]; exact Nat.succ_ne_self _))⟩
theorem br3 (I : RI c x rs N a r) (h9 : x % 9 = 3) : BadR c rs x := by
  have bd' : ∀ z ∈ rs.eraseIdx a, 0 ≤ z ∧ z < (N : Nat) := fun z h => I.bd z (List.mem_of_mem_eraseIdx h)
  have l2 : (rs.eraseIdx a).length = N - 1 := by rw [List.length_eraseIdx_of_lt (by rw [I.hl]; exact I.an), I.hl]
  have l9 : (rs.eraseIdx a).length ≤ 90 := by rw [l2]; exact Nat.le_trans (Nat.sub_le _ _) I.n9
  have wp' := I.wp2 bd'
  have J := sk (hd := headS c) wp' (by rw [List.length_map]; exact l9) I.h9
  have e : ((rs.eraseIdx a).map tS).map D.str = ((rs.map tS).map D.str).eraseIdx a := by rw [er_map, er_map]
  rw [e] at J
  have n0 := I.n0
  have ne : N - 1 ≠ N := by
    clear I J e wp' l2 l9 bd' h9
    omega
  have hne : rs.eraseIdx a ≠ [] := fun z => by
    rw [z] at l2
    have l2 : 0 = N - 1 := l2
    clear I J e wp' l9 bd' h9
    omega
  exact ⟨_, wr3 I.S J h9 (d := .str (tS r)) (by rw [List.getElem?_map, List.getElem?_map, I.hr]; rfl) I.big, I.fe hne bd' l9 (.inl rfl) (I.lk (by rw [l2]; exact ne))⟩
theorem other {a N : Nat} {k : Int} (ha : a < N) (h0 : 0 ≤ k) (h1 : k < (N : Int) - 1) : ∃ b : Nat, ((a : Int) + 1 + k) % (N : Int) = (b : Int) ∧ b < N ∧ b ≠ a := by
  by_cases z : (a : Int) + 1 + k < (N : Int)
  · exact ⟨((a : Int) + 1 + k).toNat, by rw [Int.emod_eq_of_lt (by omega) z]; omega, by omega, by omega⟩
  · refine ⟨((a : Int) + 1 + k - (N : Int)).toNat, ?_, by omega, by omega⟩
    rw [← Int.sub_emod_right, Int.emod_eq_of_lt (by omega) (by omega)]
    omega
theorem br4 (I : RI c x rs N a r) (h9 : x % 9 = 4) : BadR c rs x := by
  have n0 := I.n0
  have p2 : (0 : Int) < (N : Int) - 1 := by clear I h9; omega
  have p3 : (1 : Int) < (N : Int) := by clear I h9; omega
  obtain ⟨b, hb, hb2, hba⟩ := other (k := x / 700 % ((N : Int) - 1)) I.an (Int.emod_nonneg _ (Int.ne_of_gt p2)) (Int.emod_lt_of_pos _ p2)
  obtain ⟨r2, hr2⟩ : ∃ r, rs[b]? = some r := ⟨_, List.getElem?_eq_getElem (by rw [I.hl]; exact hb2)⟩
  have bd' : ∀ z ∈ rs.set a r2, 0 ≤ z ∧ z < (N : Nat) := fun z h => by
    rcases List.mem_or_eq_of_mem_set h with q | q
    · exact I.bd z q
    · rw [q]; exact I.bd r2 (List.mem_of_getElem? hr2)
  have l2 : (rs.set a r2).length = N := by rw [List.length_set]; exact I.hl
  have l9 : (rs.set a r2).length ≤ 90 := by rw [l2]; exact I.n9
  have J := sk (hd := headS c) (I.wp2 bd') (by rw [List.length_map]; exact l9) I.h9
  rw [List.map_set, List.map_set] at J
  have al : a < rs.length := by rw [I.hl]; exact I.an
  have dup : ¬ (rs.set a r2).Nodup := fun q => by
    have q1 : (rs.set a r2)[a]? = some r2 := List.getElem?_set_self al
    have q2 : (rs.set a r2)[b]? = some r2 := by rw [List.getElem?_set_ne hba.symm]; exact hr2
    rcases Nat.lt_or_gt_of_ne hba with z | z
    · exact dup_no q2 q1 z q
    · exact dup_no q1 q2 z q
  have hne : rs.set a r2 ≠ [] := fun z => by
    rw [z] at l2
    have l2 : 0 = N := l2
    clear I J dup bd' l9 hb h9
    omega
  have lk := lk_dup I.hc (by rw [I.hN]; exact l2) hne (bd' _ (low_spec hne).1).1 (by rw [I.hN]; exact (bd' _ (top_spec hne).1).2) dup
  refine ⟨_, wr4 (b := b) I.S J h9 p3 hb (atI_nat (by rw [List.getElem?_map, List.getElem?_map, hr2]; rfl)), ?_⟩
  have fe := I.fe (ns := rs.set a r2) hne bd' l9 (.inr rfl) lk
  rw [List.map_set] at fe
  exact fe
theorem RI.jl (I : RI c x rs N a r) : (jn (rs.map tS)).length ≤ 400 := by
  have h1 := jn_len I.wp
  have h2 := I.w9
  clear I
  omega
theorem br5 (I : RI c x rs N a r) (h9 : x % 9 = 5) : BadR c rs x := by
  have jn0 := jn_free I.wp
  refine ⟨_, wr5 I.S (sk I.wp I.w9 I.h9) h9, rrA (A := [headS c]) (z := jn (rs.map tS)) (cut2 I.h10 fun z => (jn0 10 z).2 rfl) ?_ ?_ ?_ (by simp)⟩
  · intro z
    have n0 := I.n0
    have q := jn_split (A := rs.map tS) (fun q => by
      have w := I.wl
      rw [q] at w
      have w : 0 = N := w
      clear I z jn0
      omega) I.wp
    rw [z] at q
    have q2 : Txt.split (Tx.mk []) ⟨#[32]⟩ = [Tx.mk []] := by decide +kernel
    rw [q2] at q
    have w := congrArg List.length q
    rw [I.wl] at w
    have w : 1 = N := w
    clear I z jn0 q q2
    omega
  · exact sok (l := L (jn (rs.map tS))) fun ch hch => Nat.lt_trans (jn0 ch hch).1 (by decide)
  · rw [app_len, app_len, I.h6]
    have := I.jl
    have : nl.length = 1 := rfl
    clear I jn0
    omega
theorem br6 (I : RI c x rs N a r) (h9 : x % 9 = 6) : BadR c rs x := by
  have jn0 := jn_free I.wp
  obtain ⟨u, e1, e2, e3⟩ := mo3 x
  have jl := I.jl
  have e4 : (u ++ nl).length ≤ 2 := by
    rw [app_len]
    exact Nat.succ_le_succ e3
  refine ⟨_, wr6 I.S (sk I.wp I.w9 I.h9) h9 e1 ?_, rrB (A := [headS c, jn (rs.map tS), u]) (cut4 I.h10 (fun z => (jn0 10 z).2 rfl) e2) (by simp) ?_ (by simp)⟩
  · rw [I.h6]
    clear I jn0 e1
    omega
  · rw [app_len, lenT, I.h6]
    clear I jn0 e1
    omega
theorem br7 (I : RI c x rs N a r) (h9 : x % 9 = 7) : BadR c rs x := by
  have n0 := I.n0
  have n1 := I.n1
  have p : (0 : Int) < (N : Int) + 1 := by clear I h9; omega
  obtain ⟨b, hb⟩ : ∃ b : Nat, x / 9 % ((N : Int) + 1) = (b : Int) := ⟨(x / 9 % ((N : Int) + 1)).toNat, (Int.toNat_of_nonneg (Int.emod_nonneg _ (Int.ne_of_gt p))).symm⟩
  have hb2 : b ≤ N := by
    have := Int.emod_lt_of_pos (x / 9) p
    rw [hb] at this
    clear I hb
    omega
  have wp' : ∀ v ∈ (rs.map tS).take b ++ Str.empty :: (rs.map tS).drop b, WP v := fun v hv => by
    rcases List.mem_append.mp hv with q | q
    · exact I.wp v (List.mem_of_mem_take q)
    · rcases List.mem_cons.mp q with q | q
      · rw [q]; exact ⟨by decide, fun ch hch => by simp [Str.empty] at hch⟩
      · exact I.wp v (List.mem_of_mem_drop q)
  have l' : ((rs.map tS).take b ++ Str.empty :: (rs.map tS).drop b).length ≤ 90 := by
    rw [List.length_append, List.length_take, List.length_cons, List.length_drop, I.wl]
    clear I hb wp'
    omega
  have J := sk (hd := headS c) wp' l' I.h9
  have e : ((rs.map tS).take b ++ Str.empty :: (rs.map tS).drop b).map D.str = ((rs.map tS).map D.str).take b ++ D.str Str.empty :: ((rs.map tS).map D.str).drop b := by
    simp only [List.map_append, List.map_cons, List.map_take, List.map_drop]
  rw [e] at J
  have bb : (b : Int) < 4611686018427387904 := by clear I hb wp' J e; omega
  have em : ∀ c, Bd.Col c → dat Str.empty (wordsTab (Bd.nOf c)) = none := fun c hc => by rcases hc with rfl | rfl <;> decide +kernel
  exact ⟨_, wr7 I.S J h9 hb bb I.big, finD I.hc wp' l' ⟨Str.empty, by simp, em c I.hc⟩⟩
theorem br8 (I : RI c x rs N a r) (h9 : x % 9 = 8) : BadR c rs x := by
  have hc := I.hc
  have hc5 : Bd.Col (5 - c) := hc.elim (fun q => .inr (by rw [q]; rfl)) fun q => .inl (by rw [q]; rfl)
  obtain ⟨g1, g2, g3, g4⟩ := headP hc5
  refine ⟨_, wr8 I.S (sk (hd := headS (5 - c)) I.wp I.w9 (by rw [g1]; decide)) h9 rfl (K17.cn hc5) rfl g4 rfl, ?_⟩
  have hl := I.hl
  have hN := I.hN
  rcases hc with rfl | rfl
  · have q1 : N = 16 := hN.symm
    subst q1
    refine finE (c := 3) (.inr rfl) (fun z => by rw [z] at hl; cases hl) (fun z h => ?_) (by rw [hl]; decide) (.inl rfl) (lk_len (.inr rfl) (by rw [hl]; decide))
    have q := I.bd z h
    exact ⟨q.1, Int.lt_trans q.2 (by decide)⟩
  · have q1 : N = 81 := hN.symm
    subst q1
    exact finD (c := 2) (.inl rfl) I.wp I.w9 ⟨tS 80, List.mem_map.mpr ⟨80, (List.Perm.mem_iff I.hR).mpr (by decide), rfl⟩, by decide +kernel⟩
end
theorem bad_rule {c : Int} {rs : List Int} (hc : Bd.Col c) (hR : RuleOf (Bd.nOf c) rs) (x : Int) : BadR c rs x := by
  have hz : Bd.nOf c ≤ 81 ∧ 16 ≤ Bd.nOf c := by unfold Bd.nOf; split <;> decide
  obtain ⟨n1, n0⟩ := hz
  have hl := hR.len
  have bd : ∀ z ∈ rs, 0 ≤ z ∧ z < (Bd.nOf c : Nat) := fun z h => hR.bd h
  obtain ⟨hh1, hh2, hh3, hh4⟩ := headP hc
  have cn := cn hc
  generalize hN : Bd.nOf c = N at *
  have p : (0 : Int) < (N : Int) := by clear hR hl bd; omega
  have sm : Small rs := fun z h => ⟨(bd z h).1, Int.lt_of_lt_of_le (bd z h).2 (by clear hR hl bd p; omega)⟩
  have wp : ∀ w ∈ rs.map tS, WP w := fun w hw => by
    obtain ⟨z, h, rfl⟩ := List.mem_map.mp hw
    exact wpS (sm z h).1 (sm z h).2
  have wl : (rs.map tS).length = N := by rw [List.length_map]; exact hl
  obtain ⟨a, ha⟩ : ∃ a : Nat, x / 9 % (N : Int) = (a : Int) := ⟨(x / 9 % (N : Int)).toNat, (Int.toNat_of_nonneg (Int.emod_nonneg _ (Int.ne_of_gt p))).symm⟩
  have ha2 : a < N := by
    have := Int.emod_lt_of_pos (x / 9) p
    rw [ha] at this
    clear hR bd wp sm ha
    omega
  have S : SR (rs.map D.int) ((rs.map tS).map D.str) c x N a (Str.ofString "rule ") (tS c) (headS c) := by
    refine ⟨cpR sm (by rw [hl]; exact n1), by rw [List.length_map]; exact wl, ha, ?_, Nat.lt_of_lt_of_le (by decide) n0, cn, rfl, rfl, rfl, hh3, hh4⟩
    have := ixN_int (n := N) (k := (a : Int)) (Int.natCast_nonneg a) (Int.ofNat_lt.mpr ha2)
    simpa using this
  obtain ⟨r, hr⟩ : ∃ r, rs[a]? = some r := ⟨_, List.getElem?_eq_getElem (by rw [hl]; exact ha2)⟩
  have I : RI c x rs N a r := ⟨hc, hN, hR, S, n0, n1, Nat.le_trans n1 (by decide), hl, bd, wp, wl, ha2, hr, hh1, hh2⟩
  have h9 : x % 9 = 0 ∨ x % 9 = 1 ∨ x % 9 = 2 ∨ x % 9 = 3 ∨ x % 9 = 4 ∨ x % 9 = 5 ∨ x % 9 = 6 ∨ x % 9 = 7 ∨ x % 9 = 8 := by
    clear I S hR bd wp sm ha hr hl wl hN n0 n1 p ha2 hh1 hh3 hh4 cn
    omega
  rcases h9 with h9 | h9 | h9 | h9 | h9 | h9 | h9 | h9 | h9
  · exact br0 I h9
  · exact br1 I h9
  · exact br2 I h9
  · exact br3 I h9
  · exact br4 I h9
  · exact br5 I h9
  · exact br6 I h9
  · exact br7 I h9
  · exact br8 I h9
end K17
namespace K17
open PySem L2 Mi Sh Tx
theorem col' {c : Int} (hc : Bd.Col c) : (c = 2 ∧ Bd.nOf c = 16) ∨ (c = 3 ∧ Bd.nOf c = 81) := by
  rcases hc with rfl | rfl
  · exact .inl ⟨rfl, rfl⟩
  · exact .inr ⟨rfl, rfl⟩
theorem board_rows {w h : Nat} {f : Bd.Fn} {c : Int} (hh : 2 ≤ h) (hf : Bd.InR c f) : ∃ r0 rest, bdD w h f = bT (r0 :: rest) ∧ rest.length + 1 = h ∧ ∀ r ∈ r0 :: rest, fine c w r := by
  obtain ⟨n, rfl⟩ : ∃ n, h = n + 1 := ⟨h - 1, by omega⟩
  have e : bdD w (n + 1) f = bT ((List.range (n + 1)).map fun (y : Nat) => Bd.row w fun x => f x y) := by
    unfold bdD bdL bT rD rwD
    rw [List.map_map]
    rfl
  have hfine : ∀ r ∈ ((List.range (n + 1)).map fun (y : Nat) => Bd.row w fun x => f x y), fine c w r := fun r hr => by
    obtain ⟨y, _, rfl⟩ := List.mem_map.mp hr
    refine ⟨by simp [Bd.row], fun z hz => ?_⟩
    unfold Bd.row at hz
    obtain ⟨x, _, rfl⟩ := List.mem_map.mp hz
    exact hf _ _
  generalize hL : ((List.range (n + 1)).map fun (y : Nat) => Bd.row w fun x => f x y) = L at *
  have hlen : L.length = n + 1 := by rw [← hL]; simp
  match L, hlen with
  | r0 :: rest, hlen => exact ⟨r0, rest, e, by simpa using hlen, hfine⟩
section
variable {s0 s1 s2 s3 s4 s5 s6 : Option Slot}
noncomputable def gD (d : D) : Nat := match d with
  | .int z => dgt z
  | _ => 0
noncomputable def vC : Slot → D := fun s => match s with
  | .val d => .str (Tx.mk [gD d])
  | _ => .non
theorem row_c {r : List Int} (h : Cells r) (hl : r.length ≤ 10) : c0_law [s0, s1, s2, s3, s4, s5, s6, some (.val (rD r)), none] = some (.of (.own ((r.map fun z => Tx.mk [dgt z]).map D.str)), [s0, s1, s2, s3, s4, s5, s6, some (.val (rD r)), none]) := by
  unfold c0_law
  have e0 : (r.map fun z => Tx.mk [dgt z]).map D.str = ((r.map D.int).map Slot.val).map vC := by
    rw [List.map_map, List.map_map, List.map_map]
    rfl
  rw [e0]
  refine mComp_setN _ (its := (r.map D.int).map Slot.val) ?_ (by simp) rfl (by rw [List.length_map, List.length_map]; unfold big; omega) (fun s hs => ?_) (fun s hs => ?_)
  · unfold rD
    clear e0 h hl
    generalize r.map D.int = ds at *
    walk_at "mi"
  · obtain ⟨d, _, rfl⟩ := List.mem_map.mp hs; rfl
  · obtain ⟨d, hd, rfl⟩ := List.mem_map.mp hs
    obtain ⟨z, hz, rfl⟩ := List.mem_map.mp hd
    have q := h z hz
    have q1 : (Str.ofString "012").length < 1000000 := by decide +kernel
    have q2 : atI (Str.ofString "012").cps.toList z = some (dgt z) := by
      obtain rfl | rfl | rfl : z = 0 ∨ z = 1 ∨ z = 2 := by omega
      · decide +kernel
      · decide +kernel
      · decide +kernel
    have q3 : vC (.val (.int z)) = .str ⟨#[dgt z]⟩ := rfl
    rw [q3]
    clear hs hd hz h hl q e0 q3
    unfold rD
    generalize Str.ofString "012" = o at *
    generalize dgt z = g at *
    generalize r.map D.int = ds at *
    walk_at "mi"
theorem row_j {r : List Int} : Txt.join Str.empty (r.map fun z => Tx.mk [dgt z]) = rowStr r := by
  rw [join_eq]
  refine ext ?_
  rw [L_cat, List.map_map]
  unfold rowStr
  rw [L_mk]
  induction r with
  | nil => rfl
  | cons n r ih =>
    rw [List.map_cons, List.flatten_cons, ih]
    rfl
theorem row_s {r : List Int} (hl : r.length ≤ 10) : ((r.map fun z => Tx.mk [dgt z]).map (·.length)).sum + (r.map fun z => Tx.mk [dgt z]).length ≤ 1048576 := by
  have : ∀ r : List Int, ((r.map fun z => Tx.mk [dgt z]).map (·.length)).sum = r.length := fun r => by
    induction r with
    | nil => rfl
    | cons n r ih =>
      simp only [List.map_cons, List.sum_cons, List.length_cons, ih]
      rw [len_mk]
      simp
      omega
  rw [this, List.length_map]
  omega
noncomputable def vR : Slot → D := fun s => match s with
  | .val (.tup ds) => .str (Tx.mk (ds.map gD))
  | _ => .non
theorem rows_c {rows : List (List Int)} (h : ∀ r ∈ rows, Cells r ∧ r.length ≤ 10) (hl : rows.length ≤ 10) : c1_law [s0, s1, s2, s3, some (.val (bT rows)), s5, s6, none, none] = some (.of (.own ((rows.map rowStr).map D.str)), [s0, s1, s2, s3, some (.val (bT rows)), s5, s6, none, none]) := by
  unfold c1_law
  rw [sem]
  have e0 : (rows.map rowStr).map D.str = ((rows.map rD).map Slot.val).map vR := by
    rw [List.map_map, List.map_map, List.map_map]
    apply List.map_congr_left
    intro r _
    show D.str (Tx.mk (r.map dgt)) = D.str (Tx.mk ((r.map D.int).map gD))
    rw [List.map_map]
    rfl
  rw [e0]
  refine mComp_setN _ (its := (rows.map rD).map Slot.val) ?_ (by simp) rfl (by rw [List.length_map, List.length_map]; unfold big; omega) (fun s hs => ?_) (fun s hs => ?_)
  · unfold bT
    clear e0 h hl
    generalize rows.map rD = ds at *
    walk_at "mi"
  · obtain ⟨d, _, rfl⟩ := List.mem_map.mp hs; rfl
  · obtain ⟨d, hd, rfl⟩ := List.mem_map.mp hs
    obtain ⟨r, hr, rfl⟩ := List.mem_map.mp hd
    obtain ⟨q1, q2⟩ := h r hr
    have rc := row_c (s0 := s0) (s1 := s1) (s2 := s2) (s3 := s3) (s4 := some (.val (bT rows))) (s5 := s5) (s6 := s6) q1 q2
    have e3 : vR (.val (rD r)) = .str (rowStr r) := by
      show D.str (Tx.mk ((r.map D.int).map gD)) = D.str (Tx.mk (r.map dgt))
      rw [List.map_map]
      rfl
    rw [e3]
    have j1 := strsOf_map (r.map fun z => Tx.mk [dgt z])
    have j2 := row_j (r := r)
    have j3 := row_s q2
    have j4 : Str.empty.length ≤ 16 := by decide
    clear hs hd hr h hl q1 q2 e0 e3
    generalize bT rows = bb at *
    generalize Str.empty = em at *
    generalize (r.map fun z => Tx.mk [dgt z]) = ws at *
    generalize rD r = rr at *
    generalize rowStr r = rt at *
    generalize c0_law = cc at *
    walk_at "mi"
end
theorem body_law {s ds bs : List D} {c u v k : Int} {T1 T2 : Str} {s3 s4 : Option Slot} (c5 : F__law_cell_at [.fz s, .val (.int (5 + k))] = some (.val (.int u))) (c9 : F__law_cell_at [.fz s, .val (.int (9 + k))] = some (.val (.int v)))
    (h1 : F__law_bad_board [.fz bs, .val (.int c), .val (.int u)] = some (.val (.str T1))) (h2 : F__law_bad_rule [.fz ds, .val (.int c), .val (.int v)] = some (.val (.str T2)))
    (r1 : F__law_refused [.val (.int 0), .val (.str T1), .val (.int c)] = some (.val (.bl true))) (r2 : F__law_refused [.val (.int 1), .val (.str T2), .val (.int c)] = some (.val (.bl true))) :
    b0_law [some (.fz s), some (.val (.int c)), some (.own ds), s3, s4, some (.own bs), some (.val (.int k)), none, none] = some (.nx [some (.fz s), some (.val (.int c)), some (.own ds), s3, s4, some (.own bs), some (.val (.int k)), none, none]) := by
  unfold b0_law
  walk_at "mi"
theorem row_p {r : List Int} {c : Int} {w : Nat} (hc : Bd.Col c) (h : fine c w r) : RowP w (rowStr r) ∧ Cells r := by
  have cl : Cells r := fun z hz => by have := h.2 z hz; rcases hc with rfl | rfl <;> omega
  refine ⟨⟨?_, fun ch hch => ?_⟩, cl⟩
  · unfold rowStr
    rw [len_mk, List.length_map]
    exact h.1
  · unfold rowStr at hch
    rw [L_mk] at hch
    obtain ⟨z, hz, rfl⟩ := List.mem_map.mp hch
    exact dgt_le (cl z hz).1 (cl z hz).2
theorem law_true (ns : List Int) (hns : ns.length ≤ 63) : F_law [.fz (ns.map D.int)] = some (.val (.bl true)) := by
  have c0 : F__law_cell_at [.fz (ns.map D.int), .val (.int 0)] = some (.val (.int (cell ns 0))) := cell_at ns 0
  have c1 : F__law_cell_at [.fz (ns.map D.int), .val (.int 1)] = some (.val (.int (cell ns 1))) := cell_at ns 1
  have c2 : F__law_cell_at [.fz (ns.map D.int), .val (.int 2)] = some (.val (.int (cell ns 2))) := cell_at ns 2
  have c3 : F__law_cell_at [.fz (ns.map D.int), .val (.int 3)] = some (.val (.int (cell ns 3))) := cell_at ns 3
  have c4 : F__law_cell_at [.fz (ns.map D.int), .val (.int 4)] = some (.val (.int (cell ns 4))) := cell_at ns 4
  have c5 : F__law_cell_at [.fz (ns.map D.int), .val (.int 5)] = some (.val (.int (cell ns 5))) := cell_at ns 5
  have c6 : F__law_cell_at [.fz (ns.map D.int), .val (.int 6)] = some (.val (.int (cell ns 6))) := cell_at ns 6
  have c7 : F__law_cell_at [.fz (ns.map D.int), .val (.int 7)] = some (.val (.int (cell ns 7))) := cell_at ns 7
  have c8 : F__law_cell_at [.fz (ns.map D.int), .val (.int 8)] = some (.val (.int (cell ns 8))) := cell_at ns 8
  have c9 : F__law_cell_at [.fz (ns.map D.int), .val (.int 9)] = some (.val (.int (cell ns 9))) := cell_at ns 9
  have c10 : F__law_cell_at [.fz (ns.map D.int), .val (.int 10)] = some (.val (.int (cell ns 10))) := cell_at ns 10
  have c11 : F__law_cell_at [.fz (ns.map D.int), .val (.int 11)] = some (.val (.int (cell ns 11))) := cell_at ns 11
  have c12 : F__law_cell_at [.fz (ns.map D.int), .val (.int 12)] = some (.val (.int (cell ns 12))) := cell_at ns 12
  generalize cell ns 0 = x0 at *
  generalize cell ns 1 = x1 at *
  generalize cell ns 2 = x2 at *
  generalize cell ns 3 = x3 at *
  generalize cell ns 4 = x4 at *
  generalize cell ns 5 = x5 at *
  generalize cell ns 6 = x6 at *
  generalize cell ns 7 = x7 at *
  generalize cell ns 8 = x8 at *
  generalize cell ns 9 = x9 at *
  generalize cell ns 10 = x10 at *
  generalize cell ns 11 = x11 at *
  generalize cell ns 12 = x12 at *
  have hc := col x0
  generalize hcc : 2 + x0 % 2 = c at *
  obtain ⟨rs, hrs, er⟩ := rule_by (x := x1) (col' hc)
  obtain ⟨k, hk⟩ : ∃ k : Nat, 2 + 2 * (x2 % 3) = 2 * (k : Int) := ⟨(1 + x2 % 3).toNat, by omega⟩
  obtain ⟨l, hl⟩ : ∃ l : Nat, 2 + 2 * (x3 % 3) = 2 * (l : Int) := ⟨(1 + x3 % 3).toNat, by omega⟩
  obtain ⟨f, p, hf, eb⟩ := board_by (x := x4) (c := c) (k := k) (l := l) hc (by omega) (by omega)
  obtain ⟨r0, rest, eq, hlen, hr⟩ := board_rows (w := 2 * k) (h := 2 * l) (f := f) (c := c) (by omega) hf
  rw [eq] at eb
  obtain ⟨cN, rfl⟩ : ∃ n : Nat, c = (n : Int) := ⟨c.toNat, by rcases hc with rfl | rfl <;> rfl⟩
  have hcN : cN = 2 ∨ cN = 3 := by rcases hc with h | h <;> omega
  generalize hrows : r0 :: rest = rows at *
  have hrl : rows.length = 2 * l := by rw [← hrows]; simpa using hlen
  have hp : ∀ r ∈ rows, RowP (2 * k) (rowStr r) ∧ Cells r := fun r h => row_p hc (hr r h)
  have rc := rows_c (s0 := some (.fz (ns.map D.int))) (s1 := some (.val (.int cN))) (s2 := some (.own (rs.map D.int))) (s3 := some (.val (.int (2 * (k : Int))))) (s5 := none) (s6 := none) (rows := rows) (fun r h => ⟨(hp r h).2, by have := (hr r h).1; omega⟩) (by omega)
  have B := fun u => bad_board (c := cN) (w := 2 * k) (h := 2 * l) (bs := rows.map rowStr) hcN (by omega) (by omega) (by rw [List.length_map]; exact hrl) (fun x hx => by
    obtain ⟨r, h, rfl⟩ := List.mem_map.mp hx
    exact (hp r h).1) u
  have Ru := fun v => bad_rule hc hrs v
  have body : ∀ k' u v : Int, F__law_cell_at [.fz (ns.map D.int), .val (.int (5 + k'))] = some (.val (.int u)) → F__law_cell_at [.fz (ns.map D.int), .val (.int (9 + k'))] = some (.val (.int v)) →
      b0_law [some (.fz (ns.map D.int)), some (.val (.int cN)), some (.own (rs.map D.int)), some (.val (.int (2 * (k : Int)))), some (.val (bT rows)), some (.own ((rows.map rowStr).map D.str)), some (.val (.int k')), none, none] = some (.nx [some (.fz (ns.map D.int)), some (.val (.int cN)), some (.own (rs.map D.int)), some (.val (.int (2 * (k : Int)))), some (.val (bT rows)), some (.own ((rows.map rowStr).map D.str)), some (.val (.int k')), none, none]) := fun k' u v q1 q2 => by
    obtain ⟨T1, a1, a2⟩ := B u
    obtain ⟨T2, a3, a4⟩ := Ru v
    exact body_law q1 q2 a1 a3 (refB a2) (refR a4)
  have b0 := body 0 x5 x9 c5 c9
  have b1 := body 1 x6 x10 c6 c10
  have b2 := body 2 x7 x11 c7 c11
  have b3 := body 3 x8 x12 c8 c12
  have e : rangeD 0 4 = [.val (.int 0), .val (.int 1), .val (.int 2), .val (.int 3)] := rfl
  clear B Ru body hp hr hf p eq hrs hcN hrl hlen hns
  generalize (rows.map rowStr).map D.str = bs at *
  generalize bT rows = bd at *
  generalize rs.map D.int = d at *
  have l0 : l0_law [some (.fz (ns.map D.int)), some (.val (.int cN)), some (.own d), some (.val (.int (2 * (k : Int)))), some (.val bd), some (.own bs), none, none, none] = some (.nx [some (.fz (ns.map D.int)), some (.val (.int cN)), some (.own d), some (.val (.int (2 * (k : Int)))), some (.val bd), some (.own bs), some (.val (.int 3)), none, none]) := by
    unfold l0_law
    clear rc er eb c0 c1 c2 c3 c4 c5 c6 c7 c8 c9 c10 c11 c12
    generalize b0_law = Bq at *
    generalize ns.map D.int = s at *
    walk_at "mif"
  unfold F_law m_law
  clear b0 b1 b2 b3 e c5 c6 c7 c8 c9 c10 c11 c12 hrows
  generalize ns.map D.int = s at *
  generalize 2 * (k : Int) = ww at *
  generalize 2 * (l : Int) = hg at *
  generalize (cN : Int) = c at *
  generalize c1_law = cq at *
  generalize l0_law = lq at *
  walk_at "mi"
end K17
namespace K17
open PySem L2 Mi Sh
open PySem.Spec
theorem walk {l : PySem.W.OpenLaw} {q : Program} {loose : List Str} {XP : (Str → Option Value) → Heap → Prop} {YP : World → Heap → Prop} {d : DefRec} {K : Params → PySem.W.Frag} (hn : l.most = some 63) (hdf : d.params.defaults = [])
    (hY : ∀ (w : World) (h : Heap), YP w h → (K w.params).In h)
    (F : ∀ (w : World) (mg : Str → Option Value) (fa : Addr) (h : Heap), (K w.params).In h → h.Ns mainGlobals mg → mg d.name = some (.ref fa) →
      ∃ fd : FuncData, (∀ (s : Shared) (u : Value), BindsTo s fd ⟨[u], []⟩ [("script", u)]) ∧ ∀ base : Heap, (K w.params).In base → base.Ns mainGlobals mg → FnOk l.prog w (K w.params) mg base CX0 5 fa fd ["script"] (spF (K w.params) 1 F_law)) :
    PySem.W.WalkO q loose XP YP l.row.toRowW d [] (fun f vs => PySem.call f vs) :=
  L2.walk_of (n := 63) (k := 5) (x := "script") (CX := fun _ => CX0) (sp := fun w => spF (K w.params) 1 F_law) hn (by decide) hdf ⟨rfl, by decide, by decide⟩ hY F (fun _ H a ns hl _ hS => sp_law law_true H a ns hl hS) fun _ _ _ _ _ z => z
end K17
open PySem PySem.W PyProof.Rows
set_option maxRecDepth 100000 in
set_option maxHeartbeats 0 in
theorem PySem.Challenge.cw_blockturn_k17_texts_refused_holds : PySem.Challenge.rw_blockturn_k17_texts_refused.Holds := by
  w_on; o_law; k_head; (case hw => w_witness2)
  k_fill
  refine K17.walk (l := PySem.Challenge.rw_blockturn_k17_texts_refused) rfl rfl (fun w h Y => PySem.W.kIn_of Y) ?F
  case F =>
    intro w mg fa h KX G hmg
    refine' K17.all_mk KX G hmg ?a0 ?l0 ?c0 ?k0 ?a1 ?l1 ?c1 ?k1 ?a2 ?l2 ?c2 ?k2 ?a3 ?l3 ?c3 ?k3 ?a4 ?l4 ?c4 ?k4 ?a5 ?l5 ?c5 ?k5 ?a6 ?l6 ?c6 ?k6 ?a7 ?l7 ?c7 ?k7 ?a8 ?l8 ?c8 ?k8 ?a9 ?l9 ?c9 ?k9 ?a10 ?l10 ?c10 ?k10 ?a11 ?l11 ?c11 ?k11 ?a12 ?l12 ?c12 ?k12 ?a13 ?l13 ?c13 ?k13 ?a14 ?l14 ?c14 ?k14 ?a15 ?l15 ?c15 ?k15 ?ax0 ?ex0 ?ax1 ?ex1 ?ax2 ?ex2 ?ax3 ?ex3 ?ax4 ?ex4 ?em0 ?en0 ?en1 ?en2 ?en3 ?en4 ?ai0 ?li0 ?nz0 ?cn0 ?cn1 ?ka0 ?ka1 ?kx0_0 ?kx0_1 ?kx0_2 ?kx0_3 ?kx0_4 ?kx0_5 ?ki0 ?ki1 ?ki2 ?ki3 ?ki4 ?kv0 ?z0 ?z1 ?z2 ?z3 ?z4 ?z5 ?z6 ?z7 ?z8 ?z9 ?z10 ?z11 ?z12 ?z13 ?z14
    (case a0 => k_is); (case l0 => k_is); (case c0 => k_is); (case k0 => k_is); (case a1 => k_is); (case l1 => k_is); (case c1 => k_is); (case k1 => k_is)
    (case a2 => k_is); (case l2 => k_is); (case c2 => k_is); (case k2 => k_is); (case a3 => k_is); (case l3 => k_is); (case c3 => k_is); (case k3 => k_is)
    (case a4 => k_is); (case l4 => k_is); (case c4 => k_is); (case k4 => k_is); (case a5 => k_is); (case l5 => k_is); (case c5 => k_is); (case k5 => k_is)
    (case a6 => k_is); (case l6 => k_is); (case c6 => k_is); (case k6 => k_is); (case a7 => k_is); (case l7 => k_is); (case c7 => k_is); (case k7 => k_is)
    (case a8 => k_is); (case l8 => k_is); (case c8 => k_is); (case k8 => k_is); (case a9 => k_is); (case l9 => k_is); (case c9 => k_is); (case k9 => k_is)
    (case a10 => k_is); (case l10 => k_is); (case c10 => k_is); (case k10 => k_is); (case a11 => k_is); (case l11 => k_is); (case c11 => k_is); (case k11 => k_is)
    (case a12 => k_is); (case l12 => k_is); (case c12 => k_is); (case k12 => k_is); (case a13 => k_is); (case l13 => k_is); (case c13 => k_is); (case k13 => k_is)
    (case a14 => k_is); (case l14 => k_is); (case c14 => k_is); (case k14 => k_is); (case a15 => k_is); (case l15 => k_is); (case c15 => k_is); (case k15 => k_is)
    (case ax0 => k_is); (case ex0 => k_exc); (case ax1 => k_is); (case ex1 => k_exc); (case ax2 => k_is); (case ex2 => k_exc); (case ax3 => k_is); (case ex3 => k_exc)
    (case ax4 => k_is); (case ex4 => k_exc); (case em0 => kts_exm); (case en0 => kts_exm); (case en1 => kts_exm); (case en2 => kts_exm); (case en3 => kts_exm); (case en4 => kts_exm)
    (case ai0 => k_is); (case li0 => k_is); (case nz0 => decide); (case cn0 => k_is); (case cn1 => k_is); (case ka0 => k_is); (case ka1 => k_is); (case kx0_0 => k_is)
    (case kx0_1 => k_is); (case kx0_2 => k_is); (case kx0_3 => k_is); (case kx0_4 => k_is); (case kx0_5 => k_is); (case ki0 => kit_is); (case ki1 => kit_is); (case ki2 => kit_is)
    (case ki3 => kit_is); (case ki4 => kit_is); (case kv0 => k_is); (case z0 => k_is); (case z1 => k_is); (case z2 => k_is); (case z3 => k_is); (case z4 => k_is)
    (case z5 => k_is); (case z6 => k_is); (case z7 => k_is); (case z8 => k_is); (case z9 => k_is); (case z10 => k_is); (case z11 => k_is); (case z12 => k_is)
    (case z13 => k_is); (case z14 => k_is)
