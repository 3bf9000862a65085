import PyProof.Rows.All
import Wide.All
import OpenK.AllK
import Wide.FinOn
import Lean
import PyProof.EqAt
import PyProof.EqKinds
import PyProof.TupleCall
import KE.KRevIter
import PyProof.Rows.SetFrom
import KE.KTryMore
import PyProof.NsDelKeeps
import PyProof.ExcAttrAll.ValueError
import KE.RegKTryMore
import KE.KTab
import PyProof.StrBlockH
import PyProof.ListRange
import PySem.Challenge.RW_blockturn_k15_whole_all_rings
set_option Elab.async false
set_option linter.all false
set_option maxRecDepth 100000
namespace L2
open PySem PySem.Spec PyProof.Rows
noncomputable abbrev Key:=Sum Int Str
noncomputable def keyIs:Key→Value→Bool
  | .inl k,v=>Value.isInt k v
  | .inr x,v=>Value.isStrOf x v
noncomputable def keyH (w:World):Key→Int
  | .inl k=>hashInt k
  | .inr x=>hashStr w x
theorem keyIs_shape:∀ {k:Key} {v:Value},keyIs k v=true→(∃ i t,k=Sum.inl i∧v=Value.int i t)∨(∃ x t,k=Sum.inr x∧v=Value.str x t)
  | .inl i,v,h=>by
    obtain ⟨t,e⟩:=Value.isInt_shape (k:=i) (v:=v) h
    exact .inl ⟨i,t,rfl,e⟩
  | .inr x,v,h=>by
    obtain ⟨t,e⟩:=Value.isStrOf_shape (x:=x) (v:=v) h
    exact .inr ⟨x,t,rfl,e⟩
theorem key_ll (a b:Int):decide ((Sum.inl a:Key)=Sum.inl b)=(a == b):=by
  by_cases e:a=b
  · subst e; simp
  · have h:¬ (Sum.inl a:Key)=Sum.inl b:=fun q=>e (Sum.inl.inj q)
    rw [decide_eq_false h]
    exact (beq_eq_false_iff_ne.mpr e).symm
theorem key_rr (a b:Str):decide ((Sum.inr a:Key)=Sum.inr b)=decide (a=b):=by
  by_cases e:a=b
  · subst e; simp
  · have h:¬ (Sum.inr a:Key)=Sum.inr b:=fun q=>e (Sum.inr.inj q)
    rw [decide_eq_false h,decide_eq_false e]
theorem key_lr (a:Int)(b:Str):decide ((Sum.inl a:Key)=Sum.inr b)=false:=decide_eq_false (fun q=>nomatch q)
theorem key_rl (a:Str)(b:Int):decide ((Sum.inr a:Key)=Sum.inl b)=false:=decide_eq_false (fun q=>nomatch q)
noncomputable def mixKind (prog:Program)(w:World):PySem.KeyKind prog w Key where
  is:=keyIs
  hash:=keyH w
  inj:=fun v a b ha hb=>by
    rcases keyIs_shape ha with ⟨i,t,rfl,rfl⟩ | ⟨x,t,rfl,rfl⟩
    · rcases keyIs_shape hb with ⟨j,u,rfl,e⟩ | ⟨y,u,rfl,e⟩
      · injection e with e1 _; rw [e1]
      · exact nomatch e
    · rcases keyIs_shape hb with ⟨j,u,rfl,e⟩ | ⟨y,u,rfl,e⟩
      · exact nomatch e
      · injection e with e1 _; rw [e1]
  byValue:=fun k v h=>by
    rcases keyIs_shape h with ⟨i,t,rfl,rfl⟩ | ⟨x,t,rfl,rfl⟩<;>rfl
  pyHash:=fun hv h=>by
    rcases keyIs_shape hv with ⟨i,t,rfl,rfl⟩ | ⟨x,t,rfl,rfl⟩
    · exact wpAny_pyHash_int h
    · exact wpAny_pyHash_str h
  eqBool:=fun hu hv h=>by
    rcases keyIs_shape hu with ⟨i,t,rfl,rfl⟩ | ⟨x,t,rfl,rfl⟩
    · rcases keyIs_shape hv with ⟨j,u,rfl,rfl⟩ | ⟨y,u,rfl,rfl⟩
      · rw [key_ll] at h; exact wpAny_eqBool_int h
      · rw [key_lr] at h; exact SeqAt.EqAt.int_str i t y u _ _ _ _ h
    · rcases keyIs_shape hv with ⟨j,u,rfl,rfl⟩ | ⟨y,u,rfl,rfl⟩
      · rw [key_rl] at h; exact SeqAt.EqAt.str_int x t j u _ _ _ _ h
      · rw [key_rr] at h; exact wpAny_eqBool_str h
  «strs»:=fun k x t v h=>by
    rcases keyIs_shape h with ⟨i,u,rfl,e⟩ | ⟨y,u,rfl,e⟩
    · exact nomatch e
    · injection e with e1 _
      subst e1
      cases v<;>rfl
end L2
namespace L2
open PySem PySem.Spec PyProof.Rows
inductive V where
  | non | bl (b:Bool) | int (i:Int) | str (x:Str) | byt (b:Array UInt8) | flt (b:UInt64) | ref (a:Addr) | ty (n:String)
  deriving DecidableEq
noncomputable def RelV:V→Value→Prop
  | .non,u=>u=Value.none
  | .bl b,u=>u=Value.bool b
  | .int i,u=>∃ t,u=Value.int i t
  | .str x,u=>∃ t,u=Value.str x t
  | .byt b,u=>∃ t,u=Value.bytes b t
  | .flt b,u=>∃ t,u=Value.float b t
  | .ref a,u=>u=Value.ref a
  | .ty n,u=>u=Value.type n
noncomputable abbrev Vals:List V→List Value→Prop:=Paired RelV
theorem Vals.length {xs:List V}{us:List Value}(r:Vals xs us):xs.length=us.length:=Paired.length r
theorem Vals.get:∀ {xs:List V} {us:List Value} {i:Nat} {x:V},Vals xs us→xs[i]?=some x→∃ u,us[i]?=some u∧RelV x u
  | _,_,_,_,.nil,e=>by simp at e
  | _,_,0,_,.cons r _,e=>by simp at e; subst e; exact ⟨_,rfl,r⟩
  | _,_,i+1,x,.cons _ t,e=>by
    obtain ⟨u,h1,h2⟩:=Vals.get (i:=i) (x:=x) t (by simpa using e)
    exact ⟨u,by simpa using h1,h2⟩
theorem Vals.set {x:V}{u:Value}(r:RelV x u):∀ {xs:List V} {us:List Value} (i:Nat),Vals xs us→Vals (xs.set i x) (us.set i u)
  | _,_,_,.nil=>.nil
  | _,_,0,.cons _ t=>.cons r t
  | _,_,i+1,.cons q t=>.cons q (Vals.set r i t)
theorem Vals.append:∀ {xs ys:List V} {us ws:List Value},Vals xs us→Vals ys ws→Vals (xs++ys) (us++ws)
  | _,_,_,_,.nil,s=>s
  | _,_,_,_,.cons r t,s=>.cons r (Vals.append t s)
theorem Vals.take:∀ {xs:List V} {us:List Value} (n:Nat),Vals xs us→Vals (xs.take n) (us.take n)
  | _,_,0,_=>.nil
  | _,_,_+1,.nil=>.nil
  | _,_,n+1,.cons r t=>.cons r (Vals.take n t)
theorem Vals.drop:∀ {xs:List V} {us:List Value} (n:Nat),Vals xs us→Vals (xs.drop n) (us.drop n)
  | _,_,0,r=>r
  | _,_,_+1,.nil=>.nil
  | _,_,n+1,.cons _ t=>Vals.drop n t
noncomputable def RelO:Option V→Option Value→Prop
  | some v,some u=>RelV v u
  | none,none=>True
  | _,_=>False
noncomputable def KV {κ:Type}:List (κ×V)→List (κ×Value)→Prop:=Paired fun (p:κ×V) (q:κ×Value)=>p.1=q.1∧RelV p.2 q.2
noncomputable def kV:Key→V
  | .inl i=>.int i
  | .inr x=>.str x
inductive HO where
  /-- a list -/
  | lst (xs:List V)
  /-- a tuple (never changes) -/
  | tup (xs:List V)
  /-- a dict whose keys are ints and texts; one whose keys are tuples of ints and texts (the empty one is both) -/
  | dK (kvs:List (Key×V)) | dT (kvs:List (List Key×V))
  /-- a set of ints: its members,its size -/
  | set (S:Int→Bool) (n:Nat)
  /-- an instance of the class at C,its dict at dx,its attributes -/
  | ins (C dx:Addr) (fs:List (Str×V))
  /-- the dict of the instance at x -/
  | own (x:Addr)
  /-- the dict of an exception -/
  | xd (fs:List (Str×V))
  /-- a bound method,f of x -/
  | met (f x:Addr)
  /-- a range object lo,lo+1,.. below hi -/
  | rng (lo hi:Int)
  /-- a thing that is known to the object (the script; a dict while a loop walks it): read,never written while it is so -/
  | frz (o:Obj) (u:HO)
  /-- a code object's table -/
  | tbl (ps:Array Value)
  /-- any other thing,by what is true of its one object (a def of one's own: SetO a S n:=HO.ext fun h=>..) -/
  | ext (φ:Heap→Prop)
noncomputable abbrev Hp:=Addr→Option HO
noncomputable def upd (H:Hp)(a:Addr)(o:HO):Hp:=fun b=>if b=a then some o else H b
theorem upd_same {H:Hp}{a:Addr}{o:HO}:upd H a o a=some o:=by unfold upd; rw [if_pos rfl]
theorem upd_ne {H:Hp}{a b:Addr}{o:HO}(h:b≠a):upd H a o b=H b:=by unfold upd; rw [if_neg h]
theorem ne_of {H:Hp}{a b:Addr}{o u:HO}(h:H a=some o)(h':H b=some u)(d:o≠u):a≠b:=by
  intro e; subst e; rw [h] at h'; exact d (Option.some.inj h')
theorem ne_of_none {H:Hp}{a b:Addr}{o:HO}(h:H a=some o)(h':H b=none):a≠b:=by
  intro e; subst e; rw [h] at h'; cases h'
section
variable (P:Program)(w:World)
noncomputable def ObjOk (H:Hp)(h:Heap)(a:Addr):HO→Prop
  | .lst xs=>xs.length≤sizeLine∧∃ (its:List Value) (n:Nat),Vals xs its∧h.get? a=some { cls:=.type "list",data:=.seq its.toArray n }
  | .tup xs=>xs.length≤sizeLine∧∃ its:List Value,Vals xs its∧IsTup h a its.toArray
  | .dK kvs=>kvs.length≤sizeLine∧(a == sysModules)=false∧∃ vs,KV kvs vs∧h.DictOf (mixKind P w) a vs
  | .dT kvs=>kvs.length≤sizeLine∧(a == sysModules)=false∧∃ xs:List (List Key×Addr×Value),
      Paired (fun (p:List Key×V) (q:List Key×Addr×Value)=>p.1=q.1∧H q.2.1=some (.tup (p.1.map kV))∧RelV p.2 q.2.2) kvs xs∧
      ∃ o es ep,h.get? a=some o∧o.ExactDict∧o.data=.dict es ep∧es.toList=xs.map (entryOfKey (tupleKind (mixKind P w)))∧(xs.map (·.1)).Nodup
  | .set S n=>h.SetOf (intKind P w) a S n
  | .ins C dx fs=>H dx=some (.own a)∧fs.length≤1000∧dx≠a∧h.get? a=some (PySem.W.instObj C dx)∧
      ∃ mA,h.Ns1 dx mA∧(∀ f,RelO (fs.lookup f) (mA f))∧PySem.Within mA (fs.map (·.1))
  | .own _=>∃ o,h.get? a=some o
  | .xd fs=>∃ mA,h.Ns1 a mA∧∀ f,RelO (fs.lookup f) (mA f)
  | .rng lo hi=>∃ t u v,h.get? a=some { cls:=.type "range",data:=.fields #[.int lo t,.int hi u,.int 1 v] }
  | .frz o u=>h.get? a=some o∧ObjOk H h a u
  | .tbl ps=>h.get? a=some { cls:=.none,data:=.fields ps }
  | .met f x=>h.get? a=some (PySem.W.methodObj (.ref f) (.ref x))
  | .ext φ=>φ h∧(∃ o,h.get? a=some o)∧∀ h1 h2:Heap,φ h1→(∀ o,h1.get? a=some o→h2.get? a=some o)→φ h2
noncomputable def HOk (H:Hp)(h:Heap):Prop:=∀ a o,H a=some o→ObjOk P w H h a o
end
section
variable {P:Program}{w:World}{H H':Hp}{h h':Heap}{a:Addr}{o:HO}
theorem ObjOk.lt (x:ObjOk P w H h a o):a < h.objs.size:=by
  cases o with
  | lst xs=>obtain ⟨_,_,_,_,e⟩:=x; exact Heap.lt_size e
  | tup xs=>obtain ⟨_,_,_,p⟩:=x; exact p.lt
  | dK kvs=>obtain ⟨_,_,_,_,o,_,_,e,_⟩:=x; exact Heap.lt_size e
  | dT kvs=>obtain ⟨_,_,_,_,o,_,_,e,_⟩:=x; exact Heap.lt_size e
  | set S n=>obtain ⟨o,_,_,_,e,_⟩:=x; exact Heap.lt_size e
  | ins C dx fs=>obtain ⟨_,_,_,e,_⟩:=x; exact Heap.lt_size e
  | own y=>obtain ⟨_,e⟩:=x; exact Heap.lt_size e
  | xd fs=>obtain ⟨_,⟨_,_,_,e,_⟩,_⟩:=x; exact Heap.lt_size e
  | rng lo hi=>obtain ⟨_,_,_,e⟩:=x; exact Heap.lt_size e
  | frz ob u=>obtain ⟨e,_⟩:=x; exact Heap.lt_size e
  | tbl ps=>exact Heap.lt_size (show h.get? a=some _ from x)
  | met f y=>exact Heap.lt_size (show h.get? a=some _ from x)
  | ext φ=>obtain ⟨_,⟨_,e⟩,_⟩:=x; exact Heap.lt_size e
theorem Paired.mapP {α β:Type}{F G:α→β→Prop}:∀ {l₁:List α} {l₂:List β},Paired F l₁ l₂→(∀ a b,F a b→G a b)→Paired G l₁ l₂
  | _,_,.nil,_=>.nil
  | _,_,.cons r t,f=>.cons (f _ _ r) (Paired.mapP t f)
theorem ObjOk.stay (x:ObjOk P w H h a o)(k:∀ b u,(b=a∨H b=some (.own a))→h.get? b=some u→h'.get? b=some u)
    (ho:∀ b,H b=some (.own a)→H' b=some (.own a)) (ht:∀ b xs,H b=some (.tup xs)→H' b=some (.tup xs)):ObjOk P w H' h' a o:=by
  induction o with
  | lst xs=>obtain ⟨z,its,n,r,e⟩:=x; exact ⟨z,its,n,r,k _ _ (.inl rfl) e⟩
  | tup xs=>obtain ⟨z,its,r,ob,e,c⟩:=x; exact ⟨z,its,r,ob,k _ _ (.inl rfl) e,c⟩
  | dK kvs=>obtain ⟨z,y,vs,r,ob,es,ep,e,c⟩:=x; exact ⟨z,y,vs,r,ob,es,ep,k _ _ (.inl rfl) e,c⟩
  | dT kvs=>
    obtain ⟨z,y,xs,r,ob,es,ep,e,c⟩:=x
    exact ⟨z,y,xs,Paired.mapP r fun p q z=>⟨z.1,ht _ _ z.2.1,z.2.2⟩,ob,es,ep,k _ _ (.inl rfl) e,c⟩
  | set S n=>obtain ⟨ob,es,ep,t,e,c⟩:=x; exact ⟨ob,es,ep,t,k _ _ (.inl rfl) e,c⟩
  | ins C dx fs=>
    obtain ⟨d,z,ne,e,mA,⟨od,es,ep,e2,c⟩,r⟩:=x
    exact ⟨ho _ d,z,ne,k _ _ (.inl rfl) e,mA,⟨od,es,ep,k _ _ (.inr d) e2,c⟩,r⟩
  | own y=>obtain ⟨ob,e⟩:=x; exact ⟨ob,k _ _ (.inl rfl) e⟩
  | xd fs=>obtain ⟨mA,⟨od,es,ep,e,c⟩,r⟩:=x; exact ⟨mA,⟨od,es,ep,k _ _ (.inl rfl) e,c⟩,r⟩
  | rng lo hi=>obtain ⟨t,u,v,e⟩:=x; exact ⟨t,u,v,k _ _ (.inl rfl) e⟩
  | frz ob u ih=>obtain ⟨e,q⟩:=x; exact ⟨k _ _ (.inl rfl) e,ih q⟩
  | tbl ps=>
    have e:h.get? a=some { cls:=.none,data:=.fields ps }:=x
    show h'.get? a=some { cls:=.none,data:=.fields ps }
    exact k a _ (.inl rfl) e
  | met f y=>
    have e:h.get? a=some (PySem.W.methodObj (.ref f) (.ref y)):=x
    show h'.get? a=some (PySem.W.methodObj (.ref f) (.ref y))
    exact k a _ (.inl rfl) e
  | ext φ=>obtain ⟨p,⟨o,e⟩,st⟩:=x; exact ⟨st _ _ p fun o q=>k _ _ (.inl rfl) q,⟨o,k _ _ (.inl rfl) e⟩,st⟩
theorem HOk.lt (x:HOk P w H h)(e:H a=some o):a < h.objs.size:=(x a o e).lt
theorem HOk.fresh (x:HOk P w H h)(e:h.objs.size≤a):H a=none:=by
  cases q:H a with
  | none=>rfl
  | some u=>exact absurd (Nat.lt_of_lt_of_le (x.lt q) e) (Nat.lt_irrefl _)
theorem HOk.kept (x:HOk P w H h)(k:∀ b u,h.get? b=some u→h'.get? b=some u):HOk P w H h':=fun a o e=>
  (x a o e).stay (fun b u _ q=>k b u q) (fun _ q=>q) fun _ _ q=>q
theorem HOk.laid (x:HOk P w H h)(k:∀ b u,h.get? b=some u→h'.get? b=some u)(hp:h.objs.size≤a)(new:ObjOk P w (upd H a o) h' a o):HOk P w (upd H a o) h':=fun b u e=>by
  have hn:=x.fresh hp
  by_cases hb:b=a
  · subst hb; rw [upd_same] at e; cases e; exact new
  · rw [upd_ne hb] at e
    exact (x b u e).stay (fun c v _ q=>k c v q) (fun c q=>by rw [upd_ne (ne_of_none q hn)]; exact q) fun c xs q=>by rw [upd_ne (ne_of_none q hn)]; exact q
end
noncomputable def Rd (H:Hp)(a:Addr)(u:HO):Prop:=H a=some u∨∃ o,H a=some (.frz o u)
theorem Rd.ok {P:Program}{w:World}{H:Hp}{h:Heap}{a:Addr}{u:HO}(r:Rd H a u)(x:HOk P w H h):ObjOk P w H h a u:=by
  rcases r with r | ⟨o,r⟩
  · exact x a u r
  · obtain ⟨_,q⟩:=x a _ r
    exact q
noncomputable def Mut:Option HO→Prop
  | some (.lst _)=>True
  | some (.dK _)=>True
  | some (.dT _)=>True
  | some (.set _ _)=>True
  | some (.ins _ _ _)=>True
  | some (.ext _)=>True
  | _=>False
section
variable {P:Program}{w:World}{H:Hp}{h h':Heap}{x e:Addr}{o':HO}
theorem HOk.write (ok:HOk P w H h)(mu:Mut (H x))(he:e=x∨H e=some (.own x))(k:∀ b u,b≠e→h.get? b=some u→h'.get? b=some u)(heo:∃ u,h'.get? e=some u)
    (new:ObjOk P w (upd H x o') h' x o'):HOk P w (upd H x o') h':=fun b u q=>by
  have nown:∀ c y,H c=some (.own y)→c≠x:=fun c y r z=>by subst z; rw [r] at mu; exact mu
  have ntup:∀ c xs,H c=some (.tup xs)→c≠x:=fun c xs r z=>by subst z; rw [r] at mu; exact mu
  by_cases hb:b=x
  · subst hb; rw [upd_same] at q; cases q; exact new
  · rw [upd_ne hb] at q
    by_cases hbe:b=e
    · have q':H b=some (.own x):=by
        rcases he with z | z
        · exact absurd (hbe.trans z) hb
        · rw [hbe]; exact z
      rw [q] at q'; cases q'
      obtain ⟨v,hv⟩:=heo
      exact ⟨v,by rw [hbe]; exact hv⟩
    · refine (ok b u q).stay (fun c v hc r=>k c v ?_ r) (fun c r=>by rw [upd_ne (nown c b r)]; exact r) fun c xs r=>by rw [upd_ne (ntup c xs r)]; exact r
      rcases hc with rfl | hc
      · exact hbe
      · rintro rfl
        rcases he with z | z
        · exact nown c b hc z
        · rw [hc] at z; cases z; exact hb rfl
end
structure Un (fs ex:List Addr)(H H':Hp)(h h':Heap):Prop where
  keep:∀ b o,h.get? b=some o→H b=none→b∉fs→b∉ex→h'.get? b=some o
  slot:∀ b o,h.get? b=some o→H b=none→b∈fs→b∉ex→∃ sl,h'.get? b=some { o with slots:=sl }
  free:∀ b o,h.get? b=some o→H b=none→b∉ex→H' b=none
  there:∀ b o,h.get? b=some o→b∉ex→∃ o',h'.get? b=some o'
  tups:∀ b xs,H b=some (.tup xs)→H' b=some (.tup xs)
  frzs:∀ b o u,H b=some (.frz o u)→H' b=some (.frz o u)
  tbls:∀ b ps,H b=some (.tbl ps)→∃ more,H' b=some (.tbl (ps++more))
section
variable {fs fs' ex ex':List Addr}{H H1 H2:Hp}{h h1 h2 h':Heap}{a x e:Addr}{o:HO}
theorem Un.any (u:Un fs ex H H1 h h1){b:Addr}{ob:Obj}(q:h.get? b=some ob)(n:H b=none)(hx:b∉ex):∃ sl,h1.get? b=some { ob with slots:=sl }:=by
  by_cases hb:b∈fs
  · exact u.slot b ob q n hb hx
  · exact ⟨ob.slots,u.keep b ob q n hb hx⟩
theorem Un.kept (k:∀ b u,h.get? b=some u→h'.get? b=some u):Un fs ex H H h h':=
  ⟨fun b ob q _ _ _=>k b ob q,fun b ob q _ _ _=>⟨ob.slots,k b ob q⟩,fun _ _ _ n _=>n,fun b ob q _=>⟨ob,k b ob q⟩,fun _ _ q=>q,fun _ _ _ q=>q,fun _ ps q=>⟨#[],by rw [q]; simp⟩⟩
theorem Un.refl:Un fs ex H H h h:=Un.kept fun _ _ q=>q
theorem Un.laid (k:∀ b u,h.get? b=some u→h'.get? b=some u)(hp:h.objs.size≤a)(hn:H a=none):Un fs ex H (upd H a o) h h' where
  keep:=fun b u q _ _ _=>k b u q
  slot:=fun b u q _ _ _=>⟨u.slots,k b u q⟩
  free:=fun b u q n _=>by rw [upd_ne (Nat.ne_of_lt (Nat.lt_of_lt_of_le (Heap.lt_size q) hp))]; exact n
  there:=fun b u q _=>⟨u,k b u q⟩
  tups:=fun b xs q=>by rw [upd_ne (ne_of_none q hn)]; exact q
  frzs:=fun b u xs q=>by rw [upd_ne (ne_of_none q hn)]; exact q
  tbls:=fun b ps q=>⟨#[],by rw [upd_ne (ne_of_none q hn),q]; simp⟩
theorem Un.write (mu:Mut (H x))(he:e=x∨H e=some (.own x))(k:∀ b u,b≠e→h.get? b=some u→h'.get? b=some u)(heo:∃ u,h'.get? e=some u):Un fs ex H (upd H x o) h h':=by
  have hx:∀ b,H b=none→b≠x:=fun b n z=>by subst z; rw [n] at mu; exact mu
  have hb:∀ b,H b=none→b≠e:=fun b n z=>by
    subst z
    rcases he with r | r
    · exact hx b n r
    · rw [n] at r; cases r
  have hm:∀ b u,H b=some u→¬ Mut (some u)→b≠x:=fun b u q nm z=>by subst z; rw [q] at mu; exact nm mu
  refine ⟨fun b u q n _ _=>k b u (hb b n) q,fun b u q n _ _=>⟨u.slots,k b u (hb b n) q⟩,fun b u q n _=>by rw [upd_ne (hx b n)]; exact n,fun b u q _=>?_,
    fun b xs q=>by rw [upd_ne (hm b _ q fun z=>z)]; exact q,fun b u xs q=>by rw [upd_ne (hm b _ q fun z=>z)]; exact q,fun b ps q=>⟨#[],by rw [upd_ne (hm b _ q fun z=>z),q]; simp⟩⟩
  by_cases hbe:b=e
  · subst hbe; exact heo
  · exact ⟨u,k b u hbe q⟩
end
noncomputable def trk (h:Heap)(H:Hp):List Addr:=(List.range h.objs.size).filter fun a=>(H a).isSome
noncomputable def hidT (h:Heap)(H:Hp):Heap:=PySem.W.hideAll h (trk h H)
theorem hidT_size (h:Heap)(H:Hp):(hidT h H).objs.size=h.objs.size:=PySem.W.hideAll_size _ _
theorem hidT_get {h:Heap}{H:Hp}{b:Addr}{o:Obj}(e:h.get? b=some o)(n:H b=none):(hidT h H).get? b=some o:=
  PySem.W.hideAll_get _ e fun hm=>by
    have q:(H b).isSome=true:=(List.mem_filter.mp hm).2
    rw [n] at q; simp at q
theorem of_hidT {h:Heap}{H:Hp}{b:Addr}{o:Obj}(e:(hidT h H).get? b=some o):h.get? b=some o∧H b=none:=by
  have e':h.get? b=some o:=PySem.W.of_hideAll (trk h H) e
  refine ⟨e',?_⟩
  cases q:H b with
  | none=>rfl
  | some x=>
    have hm:b∈trk h H:=List.mem_filter.mpr ⟨List.mem_range.mpr (Heap.lt_size e'),by simp [q]⟩
    have z:(hidT h H).get? b=none:=PySem.W.hideAll_none (trk h H) hm
    rw [z] at e; cases e
end L2
namespace L2
open PySem PySem.Spec PyProof.Rows
structure Mod (K:PySem.W.Frag)(mg:Str→Option Value)(base:Heap):Prop where
  kin:K.In base
  glob:base.Ns mainGlobals mg
  blt:∃ mb,base.Ns builtinsNs mb∧∀ x:Str,x ≠ "__name__" → mb x=bootBuiltins x
  nolimit:base.NoLimit
structure Cx where
  prog:Program
  w:World
  K:PySem.W.Frag
  mg:Str→Option Value
  base:Heap
  A:Around
  N:List Str
  s₀:Shared
  H₀:Hp
  env:Env
  outer:List Env
  stack:List Env
  ex:List Addr
  fn:Str→Bool
  calm:Bool
  pn:List (Addr×Obj)
  xe:Value→Shared→Prop
noncomputable def frs (l:List Env):List Addr:=l.filterMap (·.frame)
noncomputable abbrev Cx.fs (X:Cx):List Addr:=frs X.outer
noncomputable def Vis (sc:Scope)(x:Str):Prop:=sc.names.lookup x=some .local∨sc.names.lookup x=some .cell∨sc.names.lookup x=some .free
noncomputable def Loc (sc:Scope)(x:Str):Prop:=sc.names.lookup x=some .local∨sc.names.lookup x=some .cell
noncomputable def Look (env:Env)(h:Heap)(m:Str→Option Value)(x:Str)(u:Value):Prop:=
  (env.kindOf x=some .local∧m x=some u)∨((env.kindOf x=some .cell∨env.kindOf x=some .free)∧∃ c,env.cells.lookup x=some c∧h.IsCell c (some u))
structure Cx.Ok (X:Cx):Prop where
  mod:Mod X.K X.mg X.base
  kind:X.env.scope.kind=.function
  glob:X.env.globals=mainGlobals
  blt:X.env.builtins=builtinsNs
  above:X.s₀.heap.objs.size≤X.env.locals
  inj:∀ x y c,X.env.cells.lookup x=some c→X.env.cells.lookup y=some c→x=y
  has:∀ x,(X.env.kindOf x=some .cell∨X.env.kindOf x=some .free)→∃ c,X.env.cells.lookup x=some c
  cab:∀ x c,X.fn x=true→X.env.cells.lookup x=some c→X.s₀.heap.objs.size≤c
  hd:X.calm=true→X.A.handled=none
  frames:X.A.frames=some X.stack
  stk:X.stack=X.outer∨(X.stack=X.env::X.outer∧X.env.frame=some X.env.locals)
  exf:∀ b∈X.ex,b≠X.env.locals∧∀ x c,X.env.cells.lookup x=some c→c≠b
  bs:∀ b o,X.base.get? b=some o→X.s₀.heap.get? b=some o∧X.H₀ b=none
  bsz:X.base.objs.size≤X.s₀.heap.objs.size
  noex:∀ b o,X.base.get? b=some o→b∉X.ex
  exfs:∀ b∈X.ex,b∉X.fs
  funs:X.s₀.heap.FunFrames X.base X.outer
  frf:∀ b∈X.fs,X.H₀ b=none
structure Inv (X:Cx)(pins:List (Addr×Obj))(σ:List (Option V))(H:Hp)(s:Shared):Prop where
  ok:X.Ok
  os:s.os=X.s₀.os
  bare:AllBare s.gens
  base:Un X.fs X.ex X.H₀ H X.s₀.heap s.heap
  loc:∃ m,s.heap.Ns X.env.locals m∧∀ (i:Nat) (x:Str) (v:V),X.N[i]?=some x→σ[i]?=some (some v)→Vis X.env.scope x→∃ u,RelV v u∧Look X.env s.heap m x u
  cell:∀ x c,X.env.cells.lookup x=some c→∃ v,s.heap.IsCell c v
  free:H X.env.locals=none
  freeC:∀ x c,X.env.cells.lookup x=some c→H c=none
  pin:∀ p∈X.pn++pins,s.heap.get? p.1=some p.2∧H p.1=none∧p.1≠X.env.locals∧p.1∉X.fs∧∀ v,p.2.data≠.cell v
  hok:HOk X.prog X.w H s.heap
  len:σ.length=X.N.length
section
variable {X:Cx}{pins:List (Addr×Obj)}{σ:List (Option V)}{H H':Hp}{s:Shared}{h':Heap}
theorem Cx.Ok.nofr (ok:X.Ok){b:Addr}{o:Obj}(e:X.base.get? b=some o):b∉X.fs:=fun hb=>by
  have:=(ok.funs.mem hb).1
  rw [e] at this; cases this
theorem Inv.bs (I:Inv X pins σ H s):∀ b o,X.base.get? b=some o→s.heap.get? b=some o∧H b=none:=fun b o e=>
  ⟨I.base.keep b o (I.ok.bs b o e).1 (I.ok.bs b o e).2 (I.ok.nofr e) (I.ok.noex b o e),I.base.free b o (I.ok.bs b o e).1 (I.ok.bs b o e).2 (I.ok.noex b o e)⟩
theorem Inv.bk (I:Inv X pins σ H s):∀ b o,X.base.get? b=some o→s.heap.get? b=some o:=fun b o e=>(I.bs b o e).1
theorem Inv.mod (I:Inv X pins σ H s):Mod X.K X.mg X.base:=I.ok.mod
theorem Inv.kIn (I:Inv X pins σ H s):X.K.In s.heap:=I.ok.mod.kin.keeps I.bk
theorem Inv.lt (I:Inv X pins σ H s):X.env.locals < s.heap.objs.size:=let ⟨_,hn,_⟩:=I.loc; hn.lt
theorem Inv.sz (I:Inv X pins σ H s):X.s₀.heap.objs.size≤s.heap.objs.size:=Nat.le_trans I.ok.above (Nat.le_of_lt I.lt)
theorem Inv.nofs (I:Inv X pins σ H s){a:Addr}(h:s.heap.objs.size≤a):a∉X.fs:=fun hb=>by
  obtain ⟨_,o,ho,_⟩:=I.ok.funs.mem hb
  exact absurd (Nat.lt_of_lt_of_le (Heap.lt_size ho) (Nat.le_trans I.sz h)) (Nat.lt_irrefl _)
theorem Inv.cne (I:Inv X pins σ H s):∀ x c,X.env.cells.lookup x=some c→c≠X.env.locals:=fun x c e z=>by
  obtain ⟨v,o,ho,hd⟩:=I.cell x c e
  obtain ⟨m,⟨o',es,ep,ho',hd',_⟩,_⟩:=I.loc
  rw [z,ho'] at ho; cases ho; rw [hd'] at hd; cases hd
theorem Inv.funs (I:Inv X pins σ H s):s.heap.FunFrames X.base X.outer:=by
  have all:∀ (l:List Env),(∀ b∈frs l,b∈X.fs)→X.s₀.heap.FunFrames X.base l→s.heap.FunFrames X.base l:=by
    intro l
    induction l with
    | nil=>intro _ _; trivial
    | cons env r ih=>
      intro hs hl
      obtain ⟨hk,⟨L,o,hf,hn,ho,hd⟩,hr⟩:=hl
      have hL:L∈X.fs:=hs L (by unfold frs; rw [List.filterMap_cons,hf]; exact List.mem_cons_self)
      obtain ⟨sl,e⟩:=I.base.slot L o ho (I.ok.frf L hL) hL fun z=>I.ok.exfs L z hL
      exact ⟨hk,⟨L,_,hf,hn,e,hd⟩,ih (fun b hb=>hs b (by unfold frs; rw [List.filterMap_cons,hf]; exact List.mem_cons_of_mem _ hb)) hr⟩
  exact all X.outer (fun _ hb=>hb) I.ok.funs
theorem Inv.stack (I:Inv X pins σ H s):s.heap.FunFrames X.base X.stack:=by
  rcases I.ok.stk with e | ⟨e,hf⟩
  · rw [e]; exact I.funs
  · rw [e]
    obtain ⟨m,hn,_⟩:=I.loc
    refine .cons (by rw [I.ok.kind]; decide) hf hn ?_ I.funs
    exact Heap.get?_none_of_le (Nat.le_trans I.ok.bsz I.ok.above)
theorem Inv.stkSub (I:Inv X pins σ H s):∀ b∈frs X.stack,b∈X.env.locals::X.fs:=fun b hb=>by
  rcases I.ok.stk with e | ⟨e,hf⟩
  · rw [e] at hb; exact List.mem_cons_of_mem _ hb
  · rw [e] at hb
    unfold frs at hb
    rw [List.filterMap_cons,hf] at hb
    exact hb
theorem Inv.stkFree (I:Inv X pins σ H s):∀ b∈frs X.stack,H b=none:=fun b hb=>by
  rcases List.mem_cons.mp (I.stkSub b hb) with e | hb
  · rw [e]; exact I.free
  · obtain ⟨_,o,ho,_⟩:=I.ok.funs.mem hb
    exact I.base.free b o ho (I.ok.frf b hb) fun z=>I.ok.exfs b z hb
theorem Inv.step {g':Array GenState}{t':Nat}{d':Drawn}{ch:List Addr}(I:Inv X pins σ H s)
    (hch:∀ b∈ch,(b∈X.ex∨X.s₀.heap.objs.size≤b)∧b≠X.env.locals∧(∀ x c,X.env.cells.lookup x=some c→c≠b)∧∀ p∈X.pn++pins,p.1≠b)
    (keep:∀ b o,b≠X.env.locals→b∉X.fs→b∉ch→s.heap.get? b=some o→H b=none→h'.get? b=some o)
    (slot:∀ b o,b≠X.env.locals→b∈X.fs→b∉ch→s.heap.get? b=some o→H b=none→∃ sl,h'.get? b=some { o with slots:=sl }) (free:∀ b o,b∉ch→s.heap.get? b=some o→H b=none→H' b=none)
    (there:∀ b o,b∉ch→s.heap.get? b=some o→∃ o',h'.get? b=some o')
    (tups:∀ b xs,H b=some (.tup xs)→H' b=some (.tup xs)) (frzs:∀ b o u,H b=some (.frz o u)→H' b=some (.frz o u)) (tbls:∀ b ps,H b=some (.tbl ps)→∃ more,H' b=some (.tbl (ps++more)))
    (ns:∀ m,s.heap.Ns X.env.locals m→h'.Ns X.env.locals m) (hok:HOk X.prog X.w H' h') (hg:AllBare g'):
    Inv X pins σ H' { s with heap:=h',gens:=g',drawn:=d',toks:=t' }:=by
  have neL:∀ b o,X.s₀.heap.get? b=some o→b≠X.env.locals:=fun b o e=>Nat.ne_of_lt (Nat.lt_of_lt_of_le (Heap.lt_size e) I.ok.above)
  have neC:∀ b o,X.s₀.heap.get? b=some o→b∉X.ex→b∉ch:=fun b o e hx hb=>by
    rcases (hch b hb).1 with z | z
    · exact hx z
    · exact absurd (Nat.lt_of_lt_of_le (Heap.lt_size e) z) (Nat.lt_irrefl _)
  have cellK:∀ x c,X.env.cells.lookup x=some c→∀ v,s.heap.IsCell c v→h'.IsCell c v:=fun x c e v zq=>by
    obtain ⟨o,ho,hd⟩:=zq
    have nch:c∉ch:=fun z=>(hch c z).2.2.1 x c e rfl
    by_cases hc:c∈X.fs
    · obtain ⟨sl,q⟩:=slot c o (I.cne x c e) hc nch ho (I.freeC x c e)
      exact ⟨_,q,hd⟩
    · exact ⟨o,keep c o (I.cne x c e) hc nch ho (I.freeC x c e),hd⟩
  refine ⟨I.ok,I.os,hg,⟨fun b o e n hb hx=>?_,fun b o e n hb hx=>?_,fun b o e n hx=>?_,fun b o e hx=>?_,fun b xs e=>tups b xs (I.base.tups b xs e),fun b o xs e=>frzs b o xs (I.base.frzs b o xs e),fun b ps e=>?_⟩,?_,fun x c e=>?_,?_,fun x c e=>?_,fun p hp=>?_,hok,I.len⟩
  · exact keep b o (neL b o e) hb (neC b o e hx) (I.base.keep b o e n hb hx) (I.base.free b o e n hx)
  · obtain ⟨sl,e1⟩:=I.base.slot b o e n hb hx
    obtain ⟨sl',e2⟩:=slot b _ (neL b o e) hb (neC b o e hx) e1 (I.base.free b o e n hx)
    exact ⟨sl',e2⟩
  · obtain ⟨o',e1⟩:=I.base.there b o e hx
    exact free b o' (neC b o e hx) e1 (I.base.free b o e n hx)
  · obtain ⟨o',e1⟩:=I.base.there b o e hx
    exact there b o' (neC b o e hx) e1
  · obtain ⟨m1,e1⟩:=I.base.tbls b ps e
    obtain ⟨m2,e2⟩:=tbls b _ e1
    exact ⟨m1++m2,by rw [e2,Array.append_assoc]⟩
  · obtain ⟨m,hn,hl⟩:=I.loc
    refine ⟨m,ns m hn,fun i x v e1 e2 e3=>?_⟩
    obtain ⟨u,r,l⟩:=hl i x v e1 e2 e3
    refine ⟨u,r,?_⟩
    rcases l with l | ⟨k,c,e,z⟩
    · exact .inl l
    · exact .inr ⟨k,c,e,cellK x c e _ z⟩
  · obtain ⟨v,z⟩:=I.cell x c e
    exact ⟨v,cellK x c e v z⟩
  · obtain ⟨m,⟨o,_,_,ho,_⟩,_⟩:=I.loc
    exact free _ o (fun z=>(hch _ z).2.1 rfl) ho I.free
  · obtain ⟨v,o,ho,hd⟩:=I.cell x c e
    exact free c o (fun z=>(hch c z).2.2.1 x c e rfl) ho (I.freeC x c e)
  · obtain ⟨e,n,ne,nf,d⟩:=I.pin p hp
    have nch:p.1∉ch:=fun z=>(hch p.1 z).2.2.2 p hp rfl
    exact ⟨keep p.1 p.2 ne nf nch e n,free p.1 p.2 nch e n,ne,nf,d⟩
theorem Inv.un {t':Nat}(I:Inv X pins σ H s)(u:Un X.fs [] H H' s.heap h')(hok:HOk X.prog X.w H' h'):Inv X pins σ H' { s with heap:=h',toks:=t' }:=by
  obtain ⟨m,⟨o,es,ep,ho,r⟩,_⟩:=id I.loc
  obtain ⟨sl,hL⟩:=u.any ho I.free (by simp)
  exact I.step (g':=s.gens) (d':=s.drawn) (ch:=[]) (fun _ z=>nomatch z) (fun b o _ hb _ e n=>u.keep b o e n hb (by simp)) (fun b o _ hb _ e n=>u.slot b o e n hb (by simp)) (fun b o _ e n=>u.free b o e n (by simp)) (fun b o _ e=>u.there b o e (by simp)) u.tups u.frzs u.tbls (fun m' hm=>by
    obtain ⟨o',es',ep',ho',r'⟩:=hm
    rw [ho] at ho'; cases ho'
    exact ⟨_,es',ep',hL,r'⟩) hok I.bare
theorem Inv.call {g':Array GenState}{t':Nat}{d':Drawn}{ch:List Addr}(I:Inv X pins σ H s)(u:Un (frs X.stack) ch H H' s.heap h')(hok:HOk X.prog X.w H' h')(hg:AllBare g')
    (hch:∀ b∈ch,(b∈X.ex∨X.s₀.heap.objs.size≤b)∧b≠X.env.locals∧(∀ x c,X.env.cells.lookup x=some c→c≠b)∧∀ p∈X.pn++pins,p.1≠b):
    Inv X pins σ H' { s with heap:=h',gens:=g',drawn:=d',toks:=t' }:=by
  obtain ⟨m,⟨o,es,ep,ho,r⟩,_⟩:=id I.loc
  obtain ⟨sl,hL⟩:=u.any ho I.free fun z=>(hch _ z).2.1 rfl
  exact I.step (ch:=ch) hch (fun b o hL hb hc e n=>u.keep b o e n (fun z=>(List.mem_cons.mp (I.stkSub b z)).elim hL hb) hc) (fun b o _ _ hc e n=>u.any e n hc) (fun b o hc e n=>u.free b o e n hc) (fun b o hc e=>u.there b o e hc) u.tups u.frzs u.tbls (fun m' hm=>by
    obtain ⟨o',es',ep',ho',r'⟩:=hm
    rw [ho] at ho'; cases ho'
    exact ⟨_,es',ep',hL,r'⟩) hok hg
theorem Inv.turned {t':Nat}{it:Addr}(I:Inv X pins σ H s)(k:∀ b o,b≠it→s.heap.get? b=some o→h'.get? b=some o)(hn:H it=none)(hL:it≠X.env.locals)
    (h1:it∈X.ex∨X.s₀.heap.objs.size≤it) (h2:∀ x c,X.env.cells.lookup x=some c→c≠it) (h3:∀ p∈X.pn++pins,p.1≠it):Inv X pins σ H { s with heap:=h',toks:=t' }:=by
  have nit:∀ b u,H b=some u→b≠it:=fun b u e z=>by rw [z,hn] at e; cases e
  refine I.step (g':=s.gens) (d':=s.drawn) (ch:=[it]) (fun b hb=>?_) (fun b o _ _ hc e _=>k b o (fun z=>hc (by simp [z])) e) (fun b o _ _ hc e _=>⟨o.slots,k b o (fun z=>hc (by simp [z])) e⟩) (fun _ _ _ _ n=>n)
    (fun b o hc e=>⟨o,k b o (fun z=>hc (by simp [z])) e⟩) (fun _ _ e=>e) (fun _ _ _ e=>e) (fun b ps e=>⟨#[],by rw [e]; simp⟩) (fun m hm=>?_) (fun b u e=>?_) I.bare
  · have e:b=it:=by simpa using hb
    subst e
    exact ⟨h1,hL,h2,h3⟩
  · obtain ⟨o,es,ep,ho,r⟩:=hm
    exact ⟨o,es,ep,k _ o (Ne.symm hL) ho,r⟩
  · refine (I.hok b u e).stay (fun c v hc q=>k c v ?_ q) (fun _ q=>q) fun _ _ q=>q
    rcases hc with z | z
    · rw [z]; exact nit b u e
    · exact nit c _ z
theorem Inv.tok (I:Inv X pins σ H s)(t:Nat):Inv X pins σ H { s with toks:=t }:=I.un (h':=s.heap) (t':=t) Un.refl I.hok
theorem Inv.kept {t':Nat}(I:Inv X pins σ H s)(k:∀ b u,s.heap.get? b=some u→h'.get? b=some u):Inv X pins σ H { s with heap:=h',toks:=t' }:=I.un (Un.kept k) (I.hok.kept k)
theorem Inv.laid {a:Addr}{o:HO}{t':Nat}(I:Inv X pins σ H s)(k:∀ b u,s.heap.get? b=some u→h'.get? b=some u)(hp:s.heap.objs.size≤a)(new:ObjOk X.prog X.w (upd H a o) h' a o):
    Inv X pins σ (upd H a o) { s with heap:=h',toks:=t' }:=I.un (Un.laid k hp (I.hok.fresh hp)) (I.hok.laid k hp new)
theorem Inv.write {x e:Addr}{o:HO}{t':Nat}(I:Inv X pins σ H s)(mu:Mut (H x))(he:e=x∨H e=some (.own x))(k:∀ b u,b≠e→s.heap.get? b=some u→h'.get? b=some u)(heo:∃ u,h'.get? e=some u)
    (new:ObjOk X.prog X.w (upd H x o) h' x o):Inv X pins σ (upd H x o) { s with heap:=h',toks:=t' }:=I.un (Un.write mu he k heo) (I.hok.write mu he k heo new)
theorem Inv.pins_of {pins':List (Addr×Obj)}(I:Inv X pins σ H s)(h:∀ p∈pins',s.heap.get? p.1=some p.2∧H p.1=none∧p.1≠X.env.locals∧p.1∉X.fs∧∀ v,p.2.data≠.cell v):Inv X pins' σ H s:=
  ⟨I.ok,I.os,I.bare,I.base,I.loc,I.cell,I.free,I.freeC,fun p hp=>(List.mem_append.mp hp).elim (fun z=>I.pin p (List.mem_append_left _ z)) (h p),I.hok,I.len⟩
theorem nodup_ix {N:List Str}(hN:N.Nodup){i j:Nat}{x:Str}(a:N[i]?=some x)(b:N[j]?=some x):i=j:=by
  obtain ⟨h1,e1⟩:=List.getElem?_eq_some_iff.mp a
  obtain ⟨h2,e2⟩:=List.getElem?_eq_some_iff.mp b
  exact (List.getElem_inj hN).mp (e1.trans e2.symm)
theorem store_ok2 {M:Model}{A:Around}{E:Value→Shared→Prop}{i:Nat}{x:Str}{v:V}{u:Value}{Q:Unit→Shared→Prop}(I:Inv X pins σ H s)(hN:X.N.Nodup)(hi:X.N[i]?=some x)(hx:Loc X.env.scope x)(r:RelV v u)
    (h:∀ s',Inv X pins (σ.set i (some v)) H s'→(∃ a,Heap.SameBut a s.heap s'.heap∧(a=X.env.locals∨X.env.cells.lookup x=some a))→Q () s') (hf:X.fn x=true∨X.env.scope.names.lookup x=some .local:=by first | exact .inl rfl | exact .inr rfl | assumption):wpAny M A (storeName X.env x u) Q E s:=by
  obtain ⟨m,hn,hl⟩:=id I.loc
  have hcls:(X.env.scope.kind == .class || (X.env.scope.kind == .module && X.env.locals != X.env.globals))=false:=by rw [I.ok.kind]; rfl
  have hiσ:i < σ.length:=by rw [I.len]; exact (List.getElem?_eq_some_iff.mp hi).1
  have cne:=I.cne
  have tracked:∀ {a:Addr} {h':Heap},(∃ o,s.heap.get? a=some o∧H a=none)→Heap.SameBut a s.heap h'→HOk X.prog X.w H h':=fun {a h'} ha hs b ob e=>by
    obtain ⟨_,_,hfree⟩:=ha
    refine (I.hok b ob e).stay (fun c w' hc q=>(hs.2 c ?_).trans q) (fun _ q=>q) fun _ _ q=>q
    rintro rfl
    rcases hc with rfl | hc
    · rw [hfree] at e; cases e
    · rw [hfree] at hc; cases hc
  rcases hx with hk | hk
  · refine wpAny_storeName_local hk hn (fun h' hn' hs=>?_) hcls
    obtain ⟨oL,_,_,hoL,_⟩:=id hn
    refine h _ ⟨I.ok,I.os,I.bare,⟨fun b o e n hb hx=>?_,fun b o e n hb hx=>?_,I.base.free,fun b o e hx=>?_,I.base.tups,I.base.frzs,I.base.tbls⟩,⟨_,hn',fun j y v' e1 e2 e3=>?_⟩,fun y c e=>?_,I.free,I.freeC,fun p hp=>?_,tracked ⟨oL,hoL,I.free⟩ hs,by simpa using I.len⟩ ⟨_,hs,.inl rfl⟩
    · exact (hs.2 b (Nat.ne_of_lt (Nat.lt_of_lt_of_le (Heap.lt_size e) I.ok.above))).trans (I.base.keep b o e n hb hx)
    · obtain ⟨sl,e1⟩:=I.base.slot b o e n hb hx
      exact ⟨sl,(hs.2 b (Nat.ne_of_lt (Nat.lt_of_lt_of_le (Heap.lt_size e) I.ok.above))).trans e1⟩
    · obtain ⟨o',e1⟩:=I.base.there b o e hx
      exact ⟨o',(hs.2 b (Nat.ne_of_lt (Nat.lt_of_lt_of_le (Heap.lt_size e) I.ok.above))).trans e1⟩
    · by_cases hj:j=i
      · subst hj
        rw [hi] at e1; cases e1
        rw [List.getElem?_set_self hiσ] at e2
        cases e2
        exact ⟨u,r,.inl ⟨hk,by simp⟩⟩
      · rw [List.getElem?_set_ne (Ne.symm hj)] at e2
        obtain ⟨u',r',q⟩:=hl j y v' e1 e2 e3
        refine ⟨u',r',?_⟩
        rcases q with ⟨k,e⟩ | ⟨k,c,e,z⟩
        · refine .inl ⟨k,?_⟩
          have:y≠x:=fun e=>hj (nodup_ix hN e1 (e ▸ hi))
          simp [this,e]
        · exact .inr ⟨k,c,e,z.sameBut hs (cne y c e)⟩
    · obtain ⟨w',z⟩:=I.cell y c e
      exact ⟨w',z.sameBut hs (cne y c e)⟩
    · obtain ⟨e,n,ne,nf,d⟩:=I.pin p hp
      exact ⟨(hs.2 p.1 ne).trans e,n,ne,nf,d⟩
  · have hfn:X.fn x=true:=by
      rcases hf with z | z
      · exact z
      · rw [z] at hk; cases hk
    obtain ⟨c,hc⟩:=I.ok.has x (.inl hk)
    obtain ⟨w',z⟩:=I.cell x c hc
    refine wpAny_storeName_cell I.ok.kind hk hc z (fun h' hc' hs=>?_)
    obtain ⟨oc,hoc,hocd⟩:=id z
    refine h { s with heap:=h' } ⟨I.ok,I.os,I.bare,⟨fun b o e n hb hx=>?_,fun b o e n hb hx=>?_,I.base.free,fun b o e hx=>?_,I.base.tups,I.base.frzs,I.base.tbls⟩,⟨m,hn.sameBut hs (Ne.symm (cne x c hc)),fun j y v' e1 e2 e3=>?_⟩,fun y c' e=>?_,I.free,I.freeC,fun p hp=>?_,tracked ⟨oc,hoc,I.freeC x c hc⟩ hs,by simpa using I.len⟩ ⟨c,hs,.inr hc⟩
    · exact (hs.2 b (Nat.ne_of_lt (Nat.lt_of_lt_of_le (Heap.lt_size e) (I.ok.cab x c hfn hc)))).trans (I.base.keep b o e n hb hx)
    · obtain ⟨sl,e1⟩:=I.base.slot b o e n hb hx
      exact ⟨sl,(hs.2 b (Nat.ne_of_lt (Nat.lt_of_lt_of_le (Heap.lt_size e) (I.ok.cab x c hfn hc)))).trans e1⟩
    · obtain ⟨o',e1⟩:=I.base.there b o e hx
      exact ⟨o',(hs.2 b (Nat.ne_of_lt (Nat.lt_of_lt_of_le (Heap.lt_size e) (I.ok.cab x c hfn hc)))).trans e1⟩
    · by_cases hj:j=i
      · subst hj
        rw [hi] at e1; cases e1
        rw [List.getElem?_set_self hiσ] at e2
        cases e2
        exact ⟨u,r,.inr ⟨.inl hk,c,hc,hc'⟩⟩
      · rw [List.getElem?_set_ne (Ne.symm hj)] at e2
        obtain ⟨u',r',q⟩:=hl j y v' e1 e2 e3
        refine ⟨u',r',?_⟩
        rcases q with q | ⟨k,c',e,z'⟩
        · exact .inl q
        · refine .inr ⟨k,c',e,z'.sameBut hs ?_⟩
          rintro rfl
          exact hj (nodup_ix hN e1 (I.ok.inj _ _ _ e hc ▸ hi))
    · by_cases hcc:c'=c
      · subst hcc; exact ⟨_,hc'⟩
      · obtain ⟨w2,z2⟩:=I.cell y c' e
        exact ⟨w2,z2.sameBut hs hcc⟩
    · obtain ⟨e,n,ne,nf,d⟩:=I.pin p hp
      refine ⟨(hs.2 p.1 ?_).trans e,n,ne,nf,d⟩
      intro q
      rw [q,hoc] at e
      have q':oc=p.2:=Option.some.inj e
      exact d w' (by rw [←q']; exact hocd)
theorem store_ok {M:Model}{A:Around}{E:Value→Shared→Prop}{i:Nat}{x:Str}{v:V}{u:Value}{Q:Unit→Shared→Prop}(I:Inv X pins σ H s)(hN:X.N.Nodup)(hi:X.N[i]?=some x)(hx:Loc X.env.scope x)(r:RelV v u)
    (h:∀ s',Inv X pins (σ.set i (some v)) H s'→Q () s') (hf:X.fn x=true∨X.env.scope.names.lookup x=some .local:=by first | exact .inl rfl | exact .inr rfl | assumption):wpAny M A (storeName X.env x u) Q E s:=
  store_ok2 I hN hi hx r (fun s' I' _=>h s' I') hf
theorem Inv.call' {s':Shared}{ch:List Addr}(I:Inv X pins σ H s)(ho:s'.os=s.os)(u:Un (frs X.stack) ch H H' s.heap s'.heap)(hok:HOk X.prog X.w H' s'.heap)(hg:AllBare s'.gens)
    (hch:∀ b∈ch,(b∈X.ex∨X.s₀.heap.objs.size≤b)∧b≠X.env.locals∧(∀ x c,X.env.cells.lookup x=some c→c≠b)∧∀ p∈X.pn++pins,p.1≠b):Inv X pins σ H' s':=by
  obtain ⟨h',g',d',t',o'⟩:=s'
  have e:o'=s.os:=ho
  subst e
  exact I.call (g':=g') (t':=t') (d':=d') u hok hg hch
end
noncomputable abbrev XK:=Value→Option Addr→Hp→Prop
noncomputable abbrev St:=List (Option V)
noncomputable abbrev VK:=V→Hp→Prop
noncomputable abbrev TE:=St→Hp→VK→Prop
noncomputable abbrev TT:=St→Hp→(Bool→Hp→Prop)→Prop
noncomputable abbrev TA:=St→Hp→(List V→Hp→Prop)→Prop
structure Ends where
  nx:St→Hp→Prop
  rt:VK
  bk:St→Hp→Prop:=fun _ _=>False
  ct:St→Hp→Prop:=fun _ _=>False
noncomputable abbrev TS:=Ends→St→Hp→Prop
inductive EP (X:Cx)(pins:List (Addr×Obj))(σ:St)(Q:VK)(u:Value)(s':Shared):Prop
  | mk:∀ v H',(Inv X pins σ H' s')→(RelV v u)→(Q v H')→EP X pins σ Q u s'
noncomputable def TP (X:Cx)(pins:List (Addr×Obj))(σ:St)(Q:Bool→Hp→Prop)(b:Bool)(s':Shared):Prop:=∃ H',Inv X pins σ H' s'∧Q b H'
inductive AP (X:Cx)(pins:List (Addr×Obj))(σ:St)(Q:List V→Hp→Prop)(us:List Value)(s':Shared):Prop
  | mk:∀ vs H',(Inv X pins σ H' s')→(Vals vs us)→(Q vs H')→AP X pins σ Q us s'
noncomputable def SP (X:Cx)(pins:List (Addr×Obj))(D:Ends)(f:Flow)(s':Shared):Prop:=
  match f with
  | .next=>∃ σ' H',Inv X pins σ' H' s'∧D.nx σ' H'
  | .brk=>∃ σ' H',Inv X pins σ' H' s'∧D.bk σ' H'
  | .cont=>∃ σ' H',Inv X pins σ' H' s'∧D.ct σ' H'
  | .ret u=>∃ v σ' H',Inv X pins σ' H' s'∧RelV v u∧D.rt v H'
noncomputable def PE (X:Cx)(e:Expr)(t:TE):Prop:=
  ∀ (pins:List (Addr×Obj)) (s:Shared) (σ:St) (H:Hp) (Q:VK),Inv X pins σ H s→t σ H Q→wpAny (model X.prog X.w) X.A (eval e X.env) (EP X pins σ Q) X.xe s
noncomputable def PT (X:Cx)(e:Expr)(t:TT):Prop:=
  ∀ (pins:List (Addr×Obj)) (s:Shared) (σ:St) (H:Hp) (Q:Bool→Hp→Prop),Inv X pins σ H s→t σ H Q→wpAny (model X.prog X.w) X.A (isTrue e X.env (eval e X.env)) (TP X pins σ Q) X.xe s
noncomputable def PW (X:Cx)(e:Expr)(t:TT):Prop:=
  ∀ (whole:Sem Value) (pins:List (Addr×Obj)) (s:Shared) (σ:St) (H:Hp) (Q:Bool→Hp→Prop),Inv X pins σ H s→t σ H Q→wpAny (model X.prog X.w) X.A (isTrue e X.env whole) (TP X pins σ Q) X.xe s
theorem PW.pt {X:Cx}{e:Expr}{t:TT}(h:PW X e t):PT X e t:=h _
noncomputable def PA (X:Cx)(es:List Expr)(t:TA):Prop:=
  ∀ (pos:Pos) (pins:List (Addr×Obj)) (s:Shared) (σ:St) (H:Hp) (Q:List V→Hp→Prop),Inv X pins σ H s→t σ H Q→wpAny (model X.prog X.w) X.A (spliced (backTo pos (starEach es X.env))) (AP X pins σ Q) X.xe s
noncomputable def PS (X:Cx)(st:Stmt)(t:TS):Prop:=
  ∀ (pins:List (Addr×Obj)) (s:Shared) (σ:St) (H:Hp) (D:Ends),Inv X pins σ H s→t D σ H→wpAny (model X.prog X.w) X.A (exec st X.env) (SP X pins D) X.xe s
noncomputable def PSs (X:Cx)(st:List Stmt)(t:TS):Prop:=
  ∀ (pins:List (Addr×Obj)) (s:Shared) (σ:St) (H:Hp) (D:Ends),Inv X pins σ H s→t D σ H→wpAny (model X.prog X.w) X.A (execs st X.env) (SP X pins D) X.xe s
theorem thn {α:Type}{t:Sem α}{Q Q':α→Shared→Prop}{M:Model}{A:Around}{E:Value→Shared→Prop}{s:Shared}(h:wpAny M A t Q E s)(hQ:∀ a s,Q a s→Q' a s):wpAny M A t Q' E s:=wpAny_mono h hQ fun _ _ x=>x
end L2
namespace L2
open PySem PySem.Spec PyProof.Rows
section
variable {X:Cx}
inductive tVar (i:Nat)(σ:L2.St)(H:Hp)(Q:VK):Prop
  | mk:∀ v,(σ[i]?=some (some v))→(Q v H)→tVar i σ H Q
noncomputable def tC (v:V):TE:=fun _ H Q=>Q v H
theorem pe_var {i:Nat}{x:Str}{pos:Pos}(hN:X.N[i]?=some x)(hv:Vis X.env.scope x)(hd:(x == ("__debug__" : Str))=false:=by decide)(hcd:(x == ("__classdict__" : Str))=false:=by decide):PE X (.Name x pos) (tVar i):=by
  intro pins s σ H Q I h
  obtain ⟨v,e,h⟩:=h
  obtain ⟨m,hn,hl⟩:=I.loc
  obtain ⟨u,r,l⟩:=hl i x v hN e hv
  have fin:EP X pins σ Q u s:=⟨v,H,I,r,h⟩
  rcases l with ⟨hk,hm⟩ | ⟨hk,c,hc,hcell⟩
  · exact wpAny_Name (wpAny_loadName_local I.ok.kind hk hn hm fin) hd
  · rcases hk with hk | hk
    · exact wpAny_Name (wpAny_loadName_cell I.ok.kind hk hc hcell fin) hd
    · exact wpAny_Name (wpAny_loadName_free I.ok.kind hk hc hcell fin hcd) hd
theorem pe_int {i j pos}:PE X (.Constant (.int i) j pos) (tC (.int i)):=fun _ _ _ H _ I h=>wpAny_Constant_int ⟨.int i,H,I.tok _,⟨_,rfl⟩,h⟩
theorem pe_bl {b j pos}:PE X (.Constant (.bool b) j pos) (tC (.bl b)):=fun _ _ _ H _ I h=>Constant_bool ⟨.bl b,H,I,rfl,h⟩
noncomputable def Gl (X:Cx)(x:Str):Prop:=X.env.kindOf x=some .globalImplicit
theorem ld_glob {E:Value→Shared→Prop}{pins:List (Addr×Obj)}{s:Shared}{σ:St}{H:Hp}{x:Str}{u:Value}{pos:Pos}{Q:Value→Shared→Prop}(I:Inv X pins σ H s)(hg:Gl X x)(hm:X.mg x=some u)(h:Q u s)
    (hd:(x == ("__debug__" : Str))=false:=by decide):wpAny (model X.prog X.w) X.A (eval (.Name x pos) X.env) Q E s:=
  Calls.Name_function_global I.ok.kind hg (Calls.loadGlobal_global (by rw [I.ok.glob]; exact I.mod.glob.keeps I.bk) hm h) hd
theorem ld_blt {E:Value→Shared→Prop}{pins:List (Addr×Obj)}{s:Shared}{σ:St}{H:Hp}{x:Str}{u:Value}{pos:Pos}{Q:Value→Shared→Prop}(I:Inv X pins σ H s)(hg:Gl X x)(hm:X.mg x=none)(hv:bootBuiltins x=some u)(h:Q u s)
    (hn:x ≠ "__name__" := by decide) (hd:(x == ("__debug__" : Str))=false:=by decide):wpAny (model X.prog X.w) X.A (eval (.Name x pos) X.env) Q E s:=by
  obtain ⟨mb,h1,h2⟩:=I.mod.blt
  exact Calls.Name_function_global I.ok.kind hg (Calls.loadGlobal_builtin (by rw [I.ok.glob]; exact I.mod.glob.keeps I.bk) hm (by rw [I.ok.blt]; exact h1.keeps I.bk) ((h2 x hn).trans hv) h) hd
theorem pe_glob {x:Str}{v:V}{u:Value}{pos:Pos}(hg:Gl X x)(hm:X.mg x=some u)(r:RelV v u)(hd:(x == ("__debug__" : Str))=false:=by decide):PE X (.Name x pos) (tC v):=
  fun _ _ _ H _ I h=>ld_glob I hg hm ⟨v,H,I,r,h⟩ hd
theorem pe_bltn {x:Str}{v:V}{u:Value}{pos:Pos}(hg:Gl X x)(hm:X.mg x=none)(hv:bootBuiltins x=some u)(r:RelV v u)(hn:x ≠ "__name__" := by decide)(hd:(x == ("__debug__" : Str))=false:=by decide):PE X (.Name x pos) (tC v):=
  fun _ _ _ H _ I h=>ld_blt I hg hm hv ⟨v,H,I,r,h⟩ hn hd
variable {a b:Expr}{ta tb:TE}{pos:Pos}
noncomputable def tB (t:TE):TT:=fun σ H Q=>t σ H fun x H1=>∃ c,x=.bl c∧Q c H1
theorem pt_val {e:Expr}{t:TE}(h:PE X e t)(he:∀ whole,isTrue e X.env whole=(do let v ←whole; standAt e.pos; holding [v] (truthy v)):=by intro _; rfl):PT X e (tB t):=by
  intro pins s σ H Q I hw
  refine isTrue_plain (thn (h pins s σ H _ I hw) fun v s1 ⟨x,H1,I1,r1,q1⟩=>?_) (he _)
  obtain ⟨d,rfl,q⟩:=q1
  cases r1
  exact wpAny_truthy_bool ⟨H1,I1,q⟩
variable {tA tB':TT}{rest:List Expr}
noncomputable def tAnd (t u:TT):TT:=fun σ H Q=>t σ H fun c H1=>if c=true then u σ H1 Q else Q false H1
noncomputable def tOr (t u:TT):TT:=fun σ H Q=>t σ H fun c H1=>if c=true then Q true H1 else u σ H1 Q
noncomputable def tNot (t:TT):TT:=fun σ H Q=>t σ H fun c H1=>Q (!c) H1
theorem pw_and1 (ha:PT X a tA):PW X (.BoolOp .And [a] pos) tA:=by
  intro wh pins s σ H Q I h
  refine isTrue_and (thn (ha pins s σ H Q I h) fun c s1 e=>?_)
  cases c with
  | true=>exact isTrue_and_nil e
  | false=>exact e
theorem pw_or1 (ha:PT X a tA):PW X (.BoolOp .Or [a] pos) tA:=by
  intro wh pins s σ H Q I h
  refine isTrue_or (thn (ha pins s σ H Q I h) fun c s1 e=>?_)
  cases c with
  | false=>exact isTrue_or_nil e
  | true=>exact e
theorem pw_and (ha:PT X a tA)(hb:PW X (.BoolOp .And (b::rest) pos) tB'):PW X (.BoolOp .And (a::b::rest) pos) (tAnd tA tB'):=by
  intro wh pins s σ H Q I h
  refine isTrue_and (thn (ha pins s σ H _ I h) fun c s1 zq=>?_)
  obtain ⟨H1,I1,q1⟩:=zq
  cases c with
  | true=>exact hb wh pins s1 σ H1 Q I1 q1
  | false=>exact ⟨H1,I1,q1⟩
theorem pw_or (ha:PT X a tA)(hb:PW X (.BoolOp .Or (b::rest) pos) tB'):PW X (.BoolOp .Or (a::b::rest) pos) (tOr tA tB'):=by
  intro wh pins s σ H Q I h
  refine isTrue_or (thn (ha pins s σ H _ I h) fun c s1 zq=>?_)
  obtain ⟨H1,I1,q1⟩:=zq
  cases c with
  | true=>exact ⟨H1,I1,q1⟩
  | false=>exact hb wh pins s1 σ H1 Q I1 q1
theorem pt_not (ha:PT X a tA):PT X (.UnaryOp .Not a pos) (tNot tA):=by
  intro pins s σ H Q I h
  exact isTrue_not (ha pins s σ H (fun c H1=>Q (!c) H1) I h)
noncomputable def tAndV (ta tb:TE):TE:=fun σ H Q=>ta σ H fun x H1=>∃ c,x=.bl c∧if c=true then tb σ H1 Q else Q (.bl false) H1
noncomputable def tNotV (ta:TE):TE:=fun σ H Q=>ta σ H fun x H1=>∃ c,x=.bl c∧Q (.bl (!c)) H1
theorem pe_one {op}{t:TE}(h:PE X a t):PE X (.BoolOp op [a] pos) t:=fun pins s σ H Q I hw=>BoolOp_one (h pins s σ H Q I hw)
theorem pe_and (ha:PE X a ta)(hb:PE X (.BoolOp .And (b::rest) pos) tb):PE X (.BoolOp .And (a::b::rest) pos) (tAndV ta tb):=by
  intro pins s σ H Q I h
  refine BoolOp_and (thn (ha pins s σ H _ I h) fun v s1 zq=>?_)
  obtain ⟨x,H1,I1,r1,q1⟩:=zq
  obtain ⟨c,rfl,q1⟩:=q1
  cases r1
  refine wpAny_truthy_bool ?_
  cases c with
  | true=>exact hb pins s1 σ H1 Q I1 q1
  | false=>exact ⟨.bl false,H1,I1,rfl,q1⟩
theorem pe_not (ha:PE X a ta):PE X (.UnaryOp .Not a pos) (tNotV ta):=by
  intro pins s σ H Q I h
  refine UnaryOp_ (thn (ha pins s σ H _ I h) fun v s1 zq=>?_)
  obtain ⟨x,H1,I1,r1,q1⟩:=zq
  obtain ⟨c,rfl,q1⟩:=q1
  cases r1
  exact not_of (wpAny_truthy_bool ⟨.bl (!c),H1,I1,rfl,q1⟩)
noncomputable def tIf (t:TT)(ta tb:TE):TE:=fun σ H Q=>t σ H fun c H1=>if c=true then ta σ H1 Q else tb σ H1 Q
theorem pe_ifExp {c:Expr}(hc:PT X c tA)(ha:PE X a ta)(hb:PE X b tb):PE X (.IfExp c a b pos) (tIf tA ta tb):=by
  intro pins s σ H Q I h
  refine wpAny_IfExp (thn (hc pins s σ H _ I h) fun d s1 zq=>?_)
  obtain ⟨H1,I1,q1⟩:=zq
  cases d with
  | true=>exact ha pins s1 σ H1 Q I1 q1
  | false=>exact hb pins s1 σ H1 Q I1 q1
end
end L2
namespace L2
open PySem PySem.Spec PyProof.Rows
noncomputable def SqL (K:PySem.W.Frag)(H:Hp)(a:Addr)(xs:List V):Prop:=
  Rd H a (.lst xs)∨
    ∃ (o:Obj) (its:Array Value) (n:Nat),K.lookup a=some o∧o.cls=.type "list" ∧ o.dict=none∧o.data=.seq its n∧its.size≤sizeLine∧Vals xs its.toList
noncomputable def SqT (K:PySem.W.Frag)(H:Hp)(a:Addr)(xs:List V):Prop:=
  Rd H a (.tup xs)∨
    ∃ (o:Obj) (its:Array Value) (n:Nat),K.lookup a=some o∧o.cls=.type "tuple" ∧ o.data=.seq its n∧its.size≤sizeLine∧Vals xs its.toList
noncomputable def absV:Value→Option V
  | .none=>some .non
  | .bool b=>some (.bl b)
  | .int i _=>some (.int i)
  | .str x _=>some (.str x)
  | .bytes b _=>some (.byt b)
  | .float b _=>some (.flt b)
  | .ref a=>some (.ref a)
  | .type n=>some (.ty n)
  | _=>none
theorem RelV.abs {x:V}{u:Value}(r:RelV x u):absV u=some x:=by
  cases x with
  | non=>cases r; rfl
  | bl _=>cases r; rfl
  | int _=>obtain ⟨t,rfl⟩:=r; rfl
  | str _=>obtain ⟨t,rfl⟩:=r; rfl
  | byt _=>obtain ⟨t,rfl⟩:=r; rfl
  | flt _=>obtain ⟨t,rfl⟩:=r; rfl
  | ref _=>cases r; rfl
  | ty _=>cases r; rfl
theorem RelV.inj {x y:V}{u:Value}(r:RelV x u)(q:RelV y u):x=y:=Option.some.inj (r.abs.symm.trans q.abs)
theorem Vals.inj:∀ {xs ys:List V} {us:List Value},Vals xs us→Vals ys us→xs=ys
  | _,_,_,.nil,.nil=>rfl
  | _,_,_,.cons r t,.cons r' t'=>by rw [r.inj r',Vals.inj t t']
section
variable {X:Cx}{pins:List (Addr×Obj)}{σ:St}{H:Hp}{s:Shared}{a:Addr}{xs ys:List V}
theorem SqL.of {K:PySem.W.Frag}(h:H a=some (.lst xs)):SqL K H a xs:=.inl (.inl h)
theorem SqT.of {K:PySem.W.Frag}(h:H a=some (.tup xs)):SqT K H a xs:=.inl (.inl h)
theorem Inv.list (I:Inv X pins σ H s)(h:SqL X.K H a xs):∃ its:List Value,Vals xs its∧PlainL s.heap a its.toArray∧xs.length≤sizeLine:=by
  rcases h with h | ⟨o,its,n,hk,hc,hd,hs,hz,r⟩
  · obtain ⟨z,its,n,r,e⟩:=h.ok I.hok
    exact ⟨its,r,⟨_,n,e,rfl,rfl,rfl⟩,z⟩
  · refine ⟨its.toList,r,⟨o,n,I.kIn a o hk,hc,hd,by simpa using hs⟩,?_⟩
    have e:=r.length
    simp only [Array.length_toList] at e
    lia
theorem Inv.tuple (I:Inv X pins σ H s)(h:SqT X.K H a xs):∃ its:List Value,Vals xs its∧IsTup s.heap a its.toArray∧xs.length≤sizeLine:=by
  rcases h with h | ⟨o,its,n,hk,hc,hs,hz,r⟩
  · obtain ⟨z,its,r,p⟩:=h.ok I.hok
    exact ⟨its,r,p,z⟩
  · refine ⟨its.toList,r,⟨o,I.kIn a o hk,hc,n,by simpa using hs⟩,?_⟩
    have e:=r.length
    simp only [Array.length_toList] at e
    lia
theorem Inv.list_inj (I:Inv X pins σ H s)(h:SqL X.K H a xs)(h':SqL X.K H a ys):xs=ys:=by
  obtain ⟨its,r,⟨o,n,e,_,_,d⟩,_⟩:=I.list h
  obtain ⟨its',r',⟨o',n',e',_,_,d'⟩,_⟩:=I.list h'
  rw [e] at e'; cases e'
  rw [d] at d'
  injection d' with d1 _
  have:its=its':=by simpa using congrArg Array.toList d1
  subst this
  exact r.inj r'
theorem Inv.tuple_inj (I:Inv X pins σ H s)(h:SqT X.K H a xs)(h':SqT X.K H a ys):xs=ys:=by
  obtain ⟨its,r,⟨o,e,_,n,d⟩,_⟩:=I.tuple h
  obtain ⟨its',r',⟨o',e',_,n',d'⟩,_⟩:=I.tuple h'
  rw [e] at e'; cases e'
  rw [d] at d'
  injection d' with d1 _
  have:its=its':=by simpa using congrArg Array.toList d1
  subst this
  exact r.inj r'
end
noncomputable abbrev Cx.wish (X:Cx)(E:Value→Shared→Prop):Cx:={ X with xe:=E }
noncomputable abbrev Cx.nox (X:Cx):Cx:=X.wish fun _ _=>False
theorem Cx.Ok.wish {X:Cx}(ok:X.Ok)(E:Value→Shared→Prop):(X.wish E).Ok:=
  ⟨ok.mod,ok.kind,ok.glob,ok.blt,ok.above,ok.inj,ok.has,ok.cab,ok.hd,ok.frames,ok.stk,ok.exf,ok.bs,ok.bsz,ok.noex,ok.exfs,ok.funs,ok.frf⟩
theorem Cx.Ok.unwish {X:Cx}{E:Value→Shared→Prop}(ok:(X.wish E).Ok):X.Ok:=
  ⟨ok.mod,ok.kind,ok.glob,ok.blt,ok.above,ok.inj,ok.has,ok.cab,ok.hd,ok.frames,ok.stk,ok.exf,ok.bs,ok.bsz,ok.noex,ok.exfs,ok.funs,ok.frf⟩
section
variable {X:Cx}{pins:List (Addr×Obj)}{σ:St}{H:Hp}{s:Shared}{E:Value→Shared→Prop}
theorem Inv.wish (I:Inv X pins σ H s)(E:Value→Shared→Prop):Inv (X.wish E) pins σ H s:=⟨I.ok.wish E,I.os,I.bare,I.base,I.loc,I.cell,I.free,I.freeC,I.pin,I.hok,I.len⟩
theorem Inv.unwish (I:Inv (X.wish E) pins σ H s):Inv X pins σ H s:=⟨I.ok.unwish,I.os,I.bare,I.base,I.loc,I.cell,I.free,I.freeC,I.pin,I.hok,I.len⟩
theorem SP.unwish {D:Ends}{f:Flow}{s':Shared}(h:SP (X.wish E) pins D f s'):SP X pins D f s':=by
  cases f with
  | next=>obtain ⟨σ',H',I,q⟩:=h; exact ⟨σ',H',I.unwish,q⟩
  | brk=>obtain ⟨σ',H',I,q⟩:=h; exact ⟨σ',H',I.unwish,q⟩
  | cont=>obtain ⟨σ',H',I,q⟩:=h; exact ⟨σ',H',I.unwish,q⟩
  | ret u=>obtain ⟨v,σ',H',I,r,q⟩:=h; exact ⟨v,σ',H',I.unwish,r,q⟩
theorem PSs.nox {st:List Stmt}{t:TS}(h:PSs X.nox st t):PSs X st t:=fun pins s σ H D I hw=>
  wpAny_mono (h pins s σ H D (I.wish _) hw) (fun _ _ q=>q.unwish) fun _ _ z=>False.elim z
end
section
variable {X:Cx}{st:Stmt}{rest:List Stmt}{t u:TS}{e:Expr}{te:TE}{pos:Pos}
noncomputable def tNext:TS:=fun D σ H=>D.nx σ H
noncomputable def tSeq (t u:TS):TS:=fun D σ H=>t { D with nx:=u D } σ H
theorem pss_nil:PSs X [] tNext:=fun _ _ σ H _ I h=>wpAny_execs_nil ⟨σ,H,I,h⟩
theorem pss_cons (h1:PS X st t)(h2:PSs X rest u):PSs X (st::rest) (tSeq t u):=by
  intro pins s σ H D I h
  refine wpAny_execs_cons (thn (h1 pins s σ H { D with nx:=u D } I h) fun f s1 q=>?_)
  cases f with
  | next=>
    obtain ⟨σ',H',I',q⟩:=q
    exact h2 pins s1 σ' H' D I' q
  | ret v=>exact q
  | brk=>exact q
  | cont=>exact q
theorem pss_one (h1:PS X st t):PSs X [st] t:=by
  intro pins s σ H D I h
  refine wpAny_execs_cons (thn (h1 pins s σ H D I h) fun f s1 q=>?_)
  cases f with
  | next=>exact wpAny_execs_nil q
  | ret v=>exact q
  | brk=>exact q
  | cont=>exact q
theorem Inv.quiet {pins:List (Addr×Obj)}{σ:St}{H:Hp}{s:Shared}(I:Inv X pins σ H s):interactive X.env=false:=by simp [interactive,I.ok.kind]
noncomputable def tDrop (te:TE):TS:=fun D σ H=>te σ H fun _ H1=>D.nx σ H1
theorem ps_expr (he:PE X e te)(hs:swapsWith e none pos.line X.env=pure false:=by rfl):PS X (.Expr e pos) (tDrop te):=by
  intro pins s σ H D I h
  exact wpAny_Expr_any (thn (he pins s σ H _ I h) fun v s1 ⟨x,H1,I1,r1,q1⟩=>⟨σ,H1,I1,q1⟩) I.quiet hs
noncomputable def tRet (te:TE):TS:=fun D σ H=>te σ H D.rt
theorem ps_ret (he:PE X e te):PS X (.Return (some e) pos) (tRet te):=by
  intro pins s σ H D I h
  exact wpAny_Return_some (thn (he pins s σ H _ I h) fun v s1 ⟨x,H1,I1,r1,q1⟩=>⟨x,σ,H1,I1,r1,q1⟩)
noncomputable def tIfS (c:TT)(t u:TS):TS:=fun D σ H=>c σ H fun b H1=>if b=true then t D σ H1 else u D σ H1
theorem ps_if {c:Expr}{a b:List Stmt}{tc:TT}(hc:PT X c tc)(ha:PSs X a t)(hb:PSs X b u):PS X (.If c a b pos) (tIfS tc t u):=by
  intro pins s σ H D I h
  refine wpAny_If (thn (hc pins s σ H _ I h) fun d s1 zq=>?_)
  obtain ⟨H1,I1,q1⟩:=zq
  cases d with
  | true=>exact ha pins s1 σ H1 D I1 q1
  | false=>exact hb pins s1 σ H1 D I1 q1
end
noncomputable abbrev TG:=V→St→Hp→(St→Hp→Prop)→Prop
noncomputable abbrev TGs:=List V→St→Hp→(St→Hp→Prop)→Prop
noncomputable def PG (X:Cx)(target:Expr)(t:TG):Prop:=
  ∀ (pins:List (Addr×Obj)) (s:Shared) (σ:St) (H:Hp) (v:V) (u:Value) (Q:St→Hp→Prop),Inv X pins σ H s→RelV v u→t v σ H Q→
    wpAny (model X.prog X.w) X.A (assign target X.env u) (fun _ s'=>∃ σ' H',Inv X pins σ' H' s'∧Q σ' H') X.xe s
noncomputable def PGs (X:Cx)(ts:List Expr)(t:TGs):Prop:=
  ∀ (pins:List (Addr×Obj)) (s:Shared) (σ:St) (H:Hp) (vs:List V) (us:List Value) (Q:St→Hp→Prop),Inv X pins σ H s→Vals vs us→t vs σ H Q→
    wpAny (model X.prog X.w) X.A (assignInOrder ((assignEach ts X.env).map (·.2)) us) (fun _ s'=>∃ σ' H',Inv X pins σ' H' s'∧Q σ' H') X.xe s
noncomputable abbrev TSet:=V→V→V→Hp→(Hp→Prop)→Prop
noncomputable def PSet (X:Cx)(t:TSet):Prop:=
  ∀ (pins:List (Addr×Obj)) (s:Shared) (σ:St) (H:Hp) (o i v:V) (ov iv u:Value) (Q:Hp→Prop),Inv X pins σ H s→RelV o ov→RelV i iv→RelV v u→t o i v H Q→
    wpAny (model X.prog X.w) X.A (setItem ov iv u) (fun _ s'=>∃ H',Inv X pins σ H' s'∧Q H') X.xe s
section
variable {X:Cx}{pos:Pos}
noncomputable def gName (i:Nat):TG:=fun v σ H Q=>Q (σ.set i (some v)) H
theorem pg_name {i:Nat}{x:Str}(hN:X.N.Nodup)(hi:X.N[i]?=some x)(hx:Loc X.env.scope x)(hf:X.fn x=true∨X.env.scope.names.lookup x=some .local:=by first | exact .inl rfl | exact .inr rfl | assumption):PG X (.Name x pos) (gName i):=by
  intro pins s σ H v u Q I r h
  exact wpAny_assign_Name (store_ok I hN hi hx r (fun s' I'=>⟨_,H,I',h⟩) hf)
noncomputable def gNil:TGs:=fun vs σ H Q=>vs=[]∧Q σ H
inductive gCons (t:TG)(u:TGs)(vs:List V)(σ:L2.St)(H:Hp)(Q:L2.St→Hp→Prop):Prop
  | mk:∀ v r,(vs=v::r)→(t v σ H fun σ' H'=>u r σ' H' Q)→gCons t u vs σ H Q
theorem pgs_nil:PGs X [] gNil:=by
  intro pins s σ H vs us Q I r h
  obtain ⟨e,h⟩:=h
  subst e
  cases r
  exact assignInOrder_nil ⟨σ,H,I,h⟩
theorem pgs_cons {e:Expr}{es:List Expr}{t:TG}{u:TGs}(h1:PG X e t)(h2:PGs X es u)
    (hs:(assignEach (e::es) X.env).map (·.2)=assign e X.env::(assignEach es X.env).map (·.2):=by rfl):PGs X (e::es) (gCons t u):=by
  intro pins s σ H vs us Q I r h
  obtain ⟨v,vr,e1,h⟩:=h
  subst e1
  cases r with
  | cons r rr=>
    rw [hs]
    refine assignInOrder_cons (thn (h1 pins s σ H _ _ _ I r h) fun _ s1 zq=>?_)
    obtain ⟨σ1,H1,I1,q1⟩:=zq
    exact h2 pins s1 σ1 H1 _ _ Q I1 rr q1
inductive gTup (K:PySem.W.Frag)(n:Nat)(t:TGs)(v:V)(σ:L2.St)(H:Hp)(Q:L2.St→Hp→Prop):Prop
  | mk:∀ a xs,(v=.ref a)→(SqT K H a xs)→(xs.length=n)→(t xs σ H Q)→gTup K n t v σ H Q
theorem pg_tup {es:List Expr}{k:Nat}{t:TGs}{n:Nat}(hc:X.calm=true)(h:PGs X es t)
    (hn:(assignEach es X.env).length=n:=by rfl) (hst:(assignEach es X.env).findIdx? (·.1)=none:=by rfl):PG X (.Tuple es k pos) (gTup X.K n t):=by
  intro pins s σ H v u Q I r hw
  obtain ⟨a,xs,e1,hq,hl,hw⟩:=hw
  subst e1
  cases r
  obtain ⟨its,rv,ht,hz⟩:=I.tuple hq
  refine assign_Tuple_tuple (I.ok.hd hc) ht (by simp [hn,←hl,rv.length]) hst fun h' hx=>?_
  have I1:Inv X pins σ H { s with heap:=h' }:=I.kept (t':=s.toks) fun b o e=>hx b o (Nat.ne_of_lt (Heap.lt_size e)) e
  exact h pins _ σ H xs _ Q I1 (by simpa using rv) hw
noncomputable def gSub (to ti:TE)(t:TSet):TG:=fun v σ H Q=>to σ H fun o H1=>ti σ H1 fun i H2=>t o i v H2 fun H3=>Q σ H3
theorem pg_sub {o i:Expr}{to ti:TE}{t:TSet}(ho:PE X o to)(hi:PE X i ti)(hs:PSet X t)
    (ha:∀ v,assign (.Subscript o i pos) X.env v=(do
      let ov ←holding [v] (eval o X.env)
      let iv ←holding [v,ov] (eval i X.env)
      standAt pos
      holding [v,ov,iv] (setItem ov iv v)
      release [v,ov,iv] []):=by intro _; rfl):PG X (.Subscript o i pos) (gSub to ti t):=by
  intro pins s σ H v u Q I r h
  rw [ha]
  refine wpAny_bind (wpAny_holding (thn (ho pins s σ H _ I h) fun ov s1 zq=>?_))
  obtain ⟨x,H1,I1,r1,q1⟩:=zq
  refine wpAny_bind (wpAny_holding (thn (hi pins s1 σ H1 _ I1 q1) fun iv s2 zq=>?_))
  obtain ⟨y,H2,I2,r2,q2⟩:=zq
  refine wpAny_bind (wpAny_standAt (wpAny_bind (wpAny_holding (thn (hs pins s2 σ H2 x y v ov iv u _ I2 r1 r2 r q2) fun _ s3 zq=>?_))))
  obtain ⟨H3,I3,q3⟩:=zq
  exact wpAny_release ⟨σ,H3,I3,q3⟩
noncomputable def tAsg (te:TE)(g:TG):TS:=fun D σ H=>te σ H fun x H1=>g x σ H1 D.nx
theorem ps_asg {tg e:Expr}{te:TE}{g:TG}(he:PE X e te)(hg:PG X tg g)(hs:swapsWithSole [tg] e pos.line X.env=pure false:=by rfl)(hw:swappedStores [tg] e X.env=pure none:=by rfl)
    (h1:(assignEach [tg] X.env).map (·.2)=[assign tg X.env]:=by rfl):PS X (.Assign [tg] e pos) (tAsg te g):=by
  intro pins s σ H D I h
  refine wpAny_Assign_stores (thn (he pins s σ H _ I h) fun v s1 ⟨x,H1,I1,r1,q1⟩=>?_) hs hw
  rw [h1]
  exact thn (hg pins s1 σ H1 x v _ I1 r1 q1) fun _ s2 q=>q
theorem ps_set {i:Nat}{x:Str}{e:Expr}{te:TE}{pos':Pos}(hN:X.N.Nodup)(hi:X.N[i]?=some x)(hx:Loc X.env.scope x)(he:PE X e te)(hs:swapsWith e (some (.Name x pos')) pos.line X.env=pure false:=by rfl)(hf:X.fn x=true∨X.env.scope.names.lookup x=some .local:=by first | exact .inl rfl | exact .inr rfl | assumption):
    PS X (.Assign [.Name x pos'] e pos) (tAsg te (gName i)):=by
  intro pins s σ H D I h
  refine wpAny_Assign_Name (thn (he pins s σ H _ I h) fun v s1 ⟨y,H1,I1,r1,q1⟩=>?_) hs
  exact store_ok I1 hN hi hx r1 (fun s2 I2=>⟨_,H1,I2,q1⟩) hf
end
section
variable {X:Cx}{pos:Pos}
noncomputable def tWhile (c:TT)(tb:TS):TS:=fun D σ H=>∃ W:Nat→St→Hp→Prop,(∃ m,W m σ H)∧∀ m σ H,W m σ H→
  c σ H fun b H1=>if b=true then ∃ N:St→Hp→Prop,(∀ σ' H',N σ' H'→∃ m',m' < m∧W m' σ' H')∧tb { D with nx:=N,ct:=N,bk:=D.nx } σ H1 else D.nx σ H1
theorem ps_while {c:Expr}{body:List Stmt}{tc:TT}{tb:TS}(hp:PassesOwn (model X.prog X.w) X.A X.env X.xe)(hc:PT X c tc)(hb:PSs X body tb):PS X (.While c body [] pos) (tWhile tc tb):=by
  intro pins s σ H D I h
  obtain ⟨W,⟨m0,w0⟩,turn⟩:=h
  refine wpAny_While (codeAny_whileLoop (fun n s'=>∃ σ' H',Inv X pins σ' H' s'∧W n σ' H') ?_ m0 ⟨σ,H,I,w0⟩)
  rintro n s1 ⟨σ1,H1,I1,w1⟩
  refine wpAny_passesOwn hp (thn (hc pins s1 σ1 H1 _ I1 (turn n σ1 H1 w1)) fun b s2 zq=>?_)
  obtain ⟨H2,I2,q2⟩:=zq
  cases b with
  | true=>
    obtain ⟨N,hN,q2⟩:=q2
    rw [if_pos rfl]
    refine wpAny_passesOwn hp (thn (hb pins s2 σ1 H2 _ I2 q2) fun f s3 q3=>?_)
    cases f with
    | next=>
      obtain ⟨σ3,H3,I3,n3⟩:=q3
      obtain ⟨m',hm,w3⟩:=hN σ3 H3 n3
      exact ⟨m',hm,σ3,H3,I3,w3⟩
    | cont=>
      obtain ⟨σ3,H3,I3,n3⟩:=q3
      obtain ⟨m',hm,w3⟩:=hN σ3 H3 n3
      exact ⟨m',hm,σ3,H3,I3,w3⟩
    | brk=>exact q3
    | ret v=>exact q3
  | false=>
    rw [if_neg Bool.false_ne_true]
    exact wpAny_execs_nil ⟨σ1,H2,I2,q2⟩
end
structure It where
  go:Nat→Hp→Prop
  yld:Nat→Hp→V→Hp→Prop
  stop:Nat→Hp→Prop
noncomputable def FpOk (X:Cx)(pins:List (Addr×Obj))(H:Hp)(b:Addr):Prop:=
  H b=none∧b≠X.env.locals∧b∉X.fs∧(b∈X.ex∨X.s₀.heap.objs.size≤b)∧(∀ x c,X.env.cells.lookup x=some c→c≠b)∧∀ p∈X.pn++pins,p.1≠b
theorem Inv.fpOk {X:Cx}{pins:List (Addr×Obj)}{σ:St}{H H':Hp}{s:Shared}{b:Addr}(I:Inv X pins σ H s)(hb:s.heap.objs.size≤b)(hn:H' b=none):FpOk X pins H' b:=by
  refine ⟨hn,Nat.ne_of_gt (Nat.lt_of_lt_of_le I.lt hb),I.nofs hb,.inr (Nat.le_trans I.sz hb),fun x c e z=>?_,fun p hp z=>?_⟩
  · obtain ⟨v,q⟩:=I.cell x c e
    exact absurd (Nat.lt_of_lt_of_le q.lt (by rw [z]; exact hb)) (Nat.lt_irrefl _)
  · exact absurd (Nat.lt_of_lt_of_le (Heap.lt_size (I.pin p hp).1) (by rw [z]; exact hb)) (Nat.lt_irrefl _)
structure Turn (P:Program)(w:World)(K:PySem.W.Frag)(tg:Expr)(J:It)(fp:List Addr)(it:Addr)(tn:Nat→Heap→Prop):Prop where
  mem:it∈fp
  obj:∀ i h,tn i h→∀ b∈fp,∃ o,h.get? b=some o∧∀ v,o.data≠.cell v
  keep:∀ i h h',tn i h→(∀ b∈fp,∀ o,h.get? b=some o→h'.get? b=some o)→tn i h'
  item:∀ (X:Cx),X.prog=P→X.w=w→X.K=K→X.calm=true→∀ (i:Nat) (pins:List (Addr×Obj)) (s:Shared) (σ:St) (H:Hp) (E:Value→Shared→Prop),Inv X pins σ H s→(∀ b∈fp,FpOk X pins H b)→tn i s.heap→J.go i H→
    wpAny (model P w) X.A (pyNext (.ref it)) (fun r s1=>∃ u,r=some u∧
      wpAny (model P w) X.A (letOwnedTupleGo tg (.ref it) u) (fun _ s2=>∃ x H',Inv X pins σ H' s2∧RelV x u∧J.yld i H x H'∧tn (i+1) s2.heap∧∀ b∈fp,H' b=none) E s1) E s
  done:∀ (X:Cx),X.prog=P→X.w=w→X.K=K→X.calm=true→∀ (i:Nat) (pins:List (Addr×Obj)) (s:Shared) (σ:St) (H:Hp) (E:Value→Shared→Prop),Inv X pins σ H s→(∀ b∈fp,FpOk X pins H b)→tn i s.heap→J.stop i H→
    wpAny (model P w) X.A (pyNext (.ref it)) (fun r s1=>r=none∧Inv X pins σ H s1) E s
  self:∀ (A:Around) (i:Nat) (s:Shared) (Q:Value→Shared→Prop) (E:Value→Shared→Prop),tn i s.heap→Q (.ref it) s→wpAny (model P w) A (pyIter (.ref it)) Q E s
noncomputable abbrev TI:=St→Hp→(It→Hp→Prop)→Prop
inductive PIE (X:Cx)(pins:List (Addr×Obj))(σ:St)(tg:Expr)(R:It→Hp→Prop)(itv:Value)(s2:Shared):Prop
  | mk:∀ (it:Addr) (fp:List Addr) (tn:Nat→Heap→Prop) (J:It) (H':Hp),(itv=.ref it)→(Inv X pins σ H' s2)→(Turn X.prog X.w X.K tg J fp it tn)→(tn 0 s2.heap)→((∀ b∈fp,FpOk X pins H' b))→(R J H')→PIE X pins σ tg R itv s2
noncomputable def PI (X:Cx)(tg iter:Expr)(wi:TI):Prop:=
  ∀ (pins:List (Addr×Obj)) (s:Shared) (σ:St) (H:Hp) (R:It→Hp→Prop),Inv X pins σ H s→wi σ H R→
    wpAny (model X.prog X.w) X.A (eval iter X.env) (fun v s1=>wpAny (model X.prog X.w) X.A (pyIter v) (PIE X pins σ tg R) X.xe s1) X.xe s
theorem go_of {M:Model}{A:Around}{E:Value→Shared→Prop}{s:Shared}{tg:Expr}{it:Addr}{u:Value}{o:Obj}{n:String}{vs:Array Value}{Q:Unit→Shared→Prop}(ho:s.heap.get? it=some o)(hc:o.cls=.type n)(hd:o.data=.fields vs)
    (hn:["enumerate","zip","dict_itemiterator","dict_reverseitemiterator","odict_iterator","itertools.zip_longest","itertools.pairwise"].contains n=false) (hQ:Q () s):wpAny M A (letOwnedTupleGo tg (.ref it) u) Q E s:=by
  unfold letOwnedTupleGo
  cases tg<;>first
    | exact wpAny_pure hQ
    | (cases u<;>first
        | exact wpAny_pure hQ
        | (refine wpAny_bind (wpAny_load ho ?_)
           rw [hc,hd]
           show wpAny M A (if (["enumerate","zip","dict_itemiterator","dict_reverseitemiterator","odict_iterator","itertools.zip_longest","itertools.pairwise"].contains n && vs[0]? == some (rawInt _))=true then _ else _) Q E s
           rw [if_neg (by intro h; rw [hn,Bool.false_and] at h; cases h)]
           exact wpAny_pure hQ))
noncomputable def Itl (K:PySem.W.Frag)(a:Addr):It:=
  ⟨fun i H=>∃ xs x,SqL K H a xs∧xs[i]?=some x,fun i H x H'=>H'=H∧∀ xs,SqL K H a xs→xs[i]?=some x,fun i H=>∃ xs,SqL K H a xs∧xs.length≤i⟩
noncomputable def Itt (K:PySem.W.Frag)(a:Addr):It:=
  ⟨fun i H=>∃ xs x,SqT K H a xs∧xs[i]?=some x,fun i H x H'=>H'=H∧∀ xs,SqT K H a xs→xs[i]?=some x,fun i H=>∃ xs,SqT K H a xs∧xs.length≤i⟩
noncomputable def Itr (lo:Int)(n:Nat):It:=⟨fun i _=>i < n,fun i H x H'=>H'=H∧x=.int (lo+i),fun i _=>n≤i⟩
theorem turn_list {P:Program}{w:World}{K:PySem.W.Frag}{tg:Expr}(a it:Addr):Turn P w K tg (Itl K a) [it] it (fun i h=>h.IsListIter it a i) where
  mem:=by simp
  obj:=fun i h st b hb=>by
    have e:b=it:=by simpa using hb
    subst e
    obtain ⟨o,e,c,d⟩:=st
    exact ⟨o,e,fun v z=>by rw [d] at z; cases z⟩
  keep:=fun i h h' st k=>st.at fun o e=>k it (by simp) o e
  item:=by
    intro X hP hw hK hc i pins s σ H E I hf st hg
    subst hP hw hK
    obtain ⟨xs,x,hq,hx⟩:=hg
    obtain ⟨its,rv,p,hz⟩:=I.list hq
    obtain ⟨u,hu,ru⟩:=rv.get hx
    obtain ⟨f0,f1,f2,f3,f4,f5⟩:=hf it (by simp)
    refine wpAny_pyNext_list_item st p.isList (x:=u) (by simpa using hu) fun h' st' sb=>?_
    have I1:Inv X pins σ H { s with heap:=h' }:=I.turned (t':=s.toks) (fun b o hb e=>(sb.2 b hb).trans e) f0 f1 f3 f4 f5
    obtain ⟨o,e,c,d⟩:=id st'
    exact ⟨u,rfl,go_of (s:={ s with heap:=h' }) e c d (by decide) ⟨x,H,I1,ru,⟨rfl,fun ys hy=>by rw [I.list_inj hy hq]; exact hx⟩,st',fun b hb=>(hf b hb).1⟩⟩
  done:=by
    intro X hP hw hK hc i pins s σ H E I hf st hg
    subst hP hw hK
    obtain ⟨xs,hq,hx⟩:=hg
    obtain ⟨its,rv,p,hz⟩:=I.list hq
    obtain ⟨f0,f1,f2,f3,f4,f5⟩:=hf it (by simp)
    have hl:=rv.length
    exact wpAny_pyNext_list_end (I.ok.hd hc) st p.isList (by simp; lia) fun h' eb=>⟨rfl,I.turned (t':=s.toks) (fun b o hb e=>eb b o hb e) f0 f1 f3 f4 f5⟩
  self:=fun _ _ _ _ _ st h=>wpAny_pyIter_listiter st h
theorem turn_tuple {P:Program}{w:World}{K:PySem.W.Frag}{tg:Expr}(a it:Addr):Turn P w K tg (Itt K a) [it] it (fun i h=>h.IsTupleIter it a i) where
  mem:=by simp
  obj:=fun i h st b hb=>by
    have e:b=it:=by simpa using hb
    subst e
    obtain ⟨o,e,c,d⟩:=st
    exact ⟨o,e,fun v z=>by rw [d] at z; cases z⟩
  keep:=fun i h h' st k=>st.at fun o e=>k it (by simp) o e
  item:=by
    intro X hP hw hK hc i pins s σ H E I hf st hg
    subst hP hw hK
    obtain ⟨xs,x,hq,hx⟩:=hg
    obtain ⟨its,rv,p,hz⟩:=I.tuple hq
    obtain ⟨u,hu,ru⟩:=rv.get hx
    obtain ⟨f0,f1,f2,f3,f4,f5⟩:=hf it (by simp)
    refine wpAny_pyNext_tuple_item st (show s.heap.IsTuple a its.toArray from p) (x:=u) (by simpa using hu) fun h' st' sb=>?_
    have I1:Inv X pins σ H { s with heap:=h' }:=I.turned (t':=s.toks) (fun b o hb e=>(sb.2 b hb).trans e) f0 f1 f3 f4 f5
    obtain ⟨o,e,c,d⟩:=id st'
    exact ⟨u,rfl,go_of (s:={ s with heap:=h' }) e c d (by decide) ⟨x,H,I1,ru,⟨rfl,fun ys hy=>by rw [I.tuple_inj hy hq]; exact hx⟩,st',fun b hb=>(hf b hb).1⟩⟩
  done:=by
    intro X hP hw hK hc i pins s σ H E I hf st hg
    subst hP hw hK
    obtain ⟨xs,hq,hx⟩:=hg
    obtain ⟨its,rv,p,hz⟩:=I.tuple hq
    obtain ⟨f0,f1,f2,f3,f4,f5⟩:=hf it (by simp)
    have hl:=rv.length
    exact wpAny_pyNext_tuple_end (I.ok.hd hc) st (show s.heap.IsTuple a its.toArray from p) (by simp; lia) fun h' eb=>⟨rfl,I.turned (t':=s.toks) (fun b o hb e=>eb b o hb e) f0 f1 f3 f4 f5⟩
  self:=fun _ _ _ _ _ st h=>wpAny_pyIter_tupleiter st h
theorem turn_range {P:Program}{w:World}{K:PySem.W.Frag}{tg:Expr}(it:Addr)(lo:Int)(n:Nat):Turn P w K tg (Itr lo n) [it] it (fun i h=>IsRangeIter h it (lo+(i:Nat)*1) ((n:Int) - (i:Nat)) 1) where
  mem:=by simp
  obj:=fun i h st b hb=>by
    have e:b=it:=by simpa using hb
    subst e
    exact ⟨_,st,fun v z=>by
      have z':Data.fields _=Data.cell v:=z
      cases z'⟩
  keep:=fun i h h' st k=>k it (by simp) _ st
  item:=by
    intro X hP hw hK hc i pins s σ H E I hf st hg
    subst hP hw hK
    obtain ⟨f0,f1,f2,f3,f4,f5⟩:=hf it (by simp)
    have W:=Walks.range (prog:=X.prog) (w:=X.w) (I.ok.hd hc) it lo 1 n
    refine W.item i s _ _ hg st fun v h' tk hv st' kk=>?_
    obtain ⟨t,rfl⟩:=hv
    have I1:Inv X pins σ H { s with heap:=h',toks:=tk }:=I.turned (fun b o hb e=>kk b o (by simpa using hb) e) f0 f1 f3 f4 f5
    refine ⟨_,rfl,go_of (s:={ s with heap:=h',toks:=tk }) (n := "range_iterator") st' rfl rfl (by decide) ⟨.int (lo+i),H,I1,⟨t,?_⟩,⟨rfl,rfl⟩,st',fun b hb=>(hf b hb).1⟩⟩
    rw [Int.mul_one]
  done:=by
    intro X hP hw hK hc i pins s σ H E I hf st hg
    subst hP hw hK
    obtain ⟨f0,f1,f2,f3,f4,f5⟩:=hf it (by simp)
    exact wpAny_pyNext_range_end (I.ok.hd hc) st (by have:n≤i:=hg; lia) fun h' eb=>⟨rfl,I.turned (t':=s.toks) (fun b o hb e=>eb b o hb e) f0 f1 f3 f4 f5⟩
  self:=fun _ _ _ _ _ st h=>wpAny_pyIter_rangeiter st h
end L2
namespace L2
open PySem PySem.Spec PyProof.Rows
section
variable {X:Cx}{tg:Expr}
theorem range_it {pins:List (Addr×Obj)}{σ:St}{H:Hp}{s:Shared}{R:It→Hp→Prop}{E:Value→Shared→Prop}{lo hi:Int}{t u v:Tok}{tk:Nat}(I:Inv X pins σ H s)(h1:-(2 ^ 62)≤lo)(h2:lo < 2 ^ 62)(h3:-(2 ^ 62)≤hi)(h4:hi < 2 ^ 62)
    (q:R (Itr lo (hi - lo).toNat) H):wpAny (model X.prog X.w) X.A (pyIter (.ref s.heap.objs.size)) (PIE X pins σ tg R) E { s with heap:=s.heap.push { cls:=.type "range",data:=.fields #[.int lo t,.int hi u,.int 1 v] },toks:=tk }:=by
  refine wpAny_pyIter_range (IsRange.new ..) (small_one h1 h2 h3 h4) ?_
  have I1:Inv X pins σ H { s with heap:=s.heap.push { cls:=.type "range",data:=.fields #[.int lo t,.int hi u,.int 1 v] },toks:=tk }:=I.kept fun b o e=>Heap.get?_push_of_some _ e
  refine ⟨(s.heap.push { cls:=.type "range",data:=.fields #[.int lo t,.int hi u,.int 1 v] }).objs.size,[(s.heap.push { cls:=.type "range",data:=.fields #[.int lo t,.int hi u,.int 1 v] }).objs.size],_,_,H,rfl,
    I1.kept (t':=tk) fun b o e=>Heap.get?_push_of_some _ e,turn_range _ lo (hi - lo).toNat,?_,fun b hb=>?_,q⟩
  · have e1:lo+((0:Nat):Int)*1=lo:=by simp
    have e2:(((hi - lo).toNat:Nat):Int) - ((0:Nat):Int)=Builtin.Range.rangeSize lo hi 1:=by rw [rangeSize_one]; split<;>lia
    show IsRangeIter _ _ (lo+((0:Nat):Int)*1) ((((hi - lo).toNat:Nat):Int) - ((0:Nat):Int)) 1
    rw [e1,e2]
    exact Heap.get?_push_size _ rfl
  · have e:b=(s.heap.push { cls:=.type "range",data:=.fields #[.int lo t,.int hi u,.int 1 v] }).objs.size:=by simpa using hb
    subst e
    exact I1.fpOk (Nat.le_refl _) (I1.hok.fresh (Nat.le_refl _))
noncomputable def iRng1 (ta:TA):TI:=fun σ H R=>ta σ H fun vs H1=>∃ j:Int,vs=[.int j]∧-(2 ^ 62)≤j∧j < 2 ^ 62∧R (Itr 0 j.toNat) H1
theorem pi_range1 {a:Expr}{ta:TA}{p pos:Pos}(hg:Gl X "range")(hm:X.mg "range" = none)(ha:PA X [a] ta)(hs:starEach [a] X.env=[(false,eval a X.env)]:=by rfl):PI X tg (.Call (.Name "range" p) [a] [] pos) (iRng1 ta):=by
  intro pins s σ H R I h
  refine Call_ (ld_blt I hg hm boot_range (PyProof.Rows.callWith_type1 (thn (ha pos pins s σ H _ I h) fun us s1 ⟨vs,H1,I1,r1,q1⟩=>?_) hs rfl))
  obtain ⟨j,e,q1,q2,q⟩:=q1
  subst e
  cases r1 with
  | cons r rr=>
    cases rr
    obtain ⟨t,rfl⟩:=r
    exact call_range_1 (range_it I1 (by lia) (by lia) q1 q2 (by simpa using q))
noncomputable def tFor (wi:TI)(g:TG)(tb:TS):TS:=fun D σ H=>wi σ H fun J H1=>∃ W:Nat→Nat→St→Hp→Prop,(∃ m,W 0 m σ H1)∧∀ i m σ H,W i m σ H→
  (J.stop i H∧D.nx σ H)∨(J.go i H∧∃ N:St→Hp→Prop,(∀ σ' H',N σ' H'→∃ m',m' < m∧W (i+1) m' σ' H')∧∀ x H',J.yld i H x H'→g x σ H' fun σ2 H2=>tb { D with nx:=N,ct:=N,bk:=D.nx } σ2 H2)
noncomputable def pinsAt (fp:List Addr)(h:Heap):List (Addr×Obj):=fp.filterMap fun b=>(h.get? b).map fun o=>(b,o)
theorem mem_pinsAt {fp:List Addr}{h:Heap}{b:Addr}{o:Obj}(hb:b∈fp)(e:h.get? b=some o):(b,o)∈pinsAt fp h:=List.mem_filterMap.mpr ⟨b,hb,by rw [e]; rfl⟩
theorem of_pinsAt {fp:List Addr}{h:Heap}{p:Addr×Obj}(hp:p∈pinsAt fp h):p.1∈fp∧h.get? p.1=some p.2:=by
  obtain ⟨b,hb,e⟩:=List.mem_filterMap.mp hp
  cases q:h.get? b with
  | none=>rw [q] at e; cases e
  | some o=>
    rw [q] at e
    have e':(b,o)=p:=Option.some.inj e
    subst e'
    exact ⟨hb,q⟩
theorem Inv.pinned {pins:List (Addr×Obj)}{σ:St}{H:Hp}{s:Shared}{fp:List Addr}(I:Inv X pins σ H s)(hf:∀ b∈fp,FpOk X pins H b)(ho:∀ b∈fp,∃ o,s.heap.get? b=some o∧∀ v,o.data≠.cell v):Inv X (pins++pinsAt fp s.heap) σ H s:=
  I.pins_of fun p hp=>(List.mem_append.mp hp).elim (fun z=>I.pin p (List.mem_append_right _ z)) fun z=>by
    obtain ⟨hb,e⟩:=of_pinsAt z
    obtain ⟨f0,f1,f2,_⟩:=hf p.1 hb
    obtain ⟨o,e',d⟩:=ho p.1 hb
    rw [e] at e'; cases e'
    exact ⟨e,f0,f1,f2,d⟩
theorem Inv.unpinned {pins pl:List (Addr×Obj)}{σ:St}{H:Hp}{s:Shared}(I:Inv X (pins++pl) σ H s):Inv X pins σ H s:=I.pins_of fun p hp=>I.pin p (List.mem_append_right _ (List.mem_append_left _ hp))
theorem ps_for {iter:Expr}{body:List Stmt}{wi:TI}{g:TG}{tb:TS}{pos:Pos}(hp:PassesOwn (model X.prog X.w) X.A X.env X.xe)(hc:X.calm=true)(hi:PI X tg iter wi)(hg:PG X tg g)(hb:PSs X body tb)
    (hs:∀ x,foldedSetIterable iter X.env x=pure x:=by intro _; rfl):PS X (.For tg iter body [] pos) (tFor wi g tb):=by
  intro pins s σ H D I h
  refine wpAny_For (thn (hi pins s σ H _ I h) fun v s1 h1=>thn h1 fun itv s2 h2=>?_) hs
  obtain ⟨it,fp,tn,J,H2,e,I2,T,st2,f2,W,⟨m0,w0⟩,turn⟩:=h2
  subst e
  -- what stays true of the iterator's objects through the loop
  have stat:∀ {H':Hp},(∀ b∈fp,H' b=none)→∀ b∈fp,FpOk X pins H' b:=fun hn b hb=>⟨hn b hb,(f2 b hb).2⟩
  refine codeAny_forLoop_any (fun n s'=>∃ i σ' H',Inv X pins σ' H' s'∧tn i s'.heap∧(∀ b∈fp,H' b=none)∧W i n σ' H') ?_ m0 ⟨0,σ,H2,I2,st2,fun b hb=>(f2 b hb).1,w0⟩
  rintro n s3 ⟨i,σ3,H3,I3,st3,fr3,w3⟩
  rcases turn i n σ3 H3 w3 with ⟨stop,qn⟩ | ⟨go,N,hN,step⟩
  · refine wpAny_passesOwn hp (thn (T.done X rfl rfl rfl hc i pins s3 σ3 H3 X.xe I3 (stat fr3) st3 stop) fun r s4 zq=>?_)
    obtain ⟨hr,I4⟩:=zq
    subst hr
    exact wpAny_execs_nil ⟨σ3,H3,I4,qn⟩
  · refine wpAny_passesOwn hp (thn (T.item X rfl rfl rfl hc i pins s3 σ3 H3 X.xe I3 (stat fr3) st3 go) fun r s4 zq=>?_)
    obtain ⟨u,hr,h4⟩:=zq
    subst hr
    refine wpAny_passesOwn hp (thn h4 fun _ s5 zq=>?_)
    obtain ⟨x,H5,I5,r5,y5,st5,fr5⟩:=zq
    have I5':=I5.pinned (stat fr5) (T.obj _ _ st5)
    refine wpAny_passesOwn hp (thn (hg _ s5 σ3 H5 x u _ I5' r5 (step x H5 y5)) fun _ s6 zq=>?_)
    obtain ⟨σ6,H6,I6,q6⟩:=zq
    refine wpAny_passesOwn hp (thn (hb _ s6 σ6 H6 _ I6 q6) fun f s7 q7=>?_)
    have again:∀ {σ7:St} {H7:Hp},Inv X (pins++pinsAt fp s5.heap) σ7 H7 s7→N σ7 H7→∃ m,m < n∧∃ i σ' H',Inv X pins σ' H' s7∧tn i s7.heap∧(∀ b∈fp,H' b=none)∧W i m σ' H':=fun {σ7 H7} I7 n7=>by
      obtain ⟨m',hm,w7⟩:=hN σ7 H7 n7
      refine ⟨m',hm,i+1,σ7,H7,I7.unpinned,T.keep _ _ _ st5 fun b hb o e=>(I7.pin (b,o) (List.mem_append_right _ (List.mem_append_right _ (mem_pinsAt hb e)))).1,fun b hb=>?_,w7⟩
      obtain ⟨o,e,d⟩:=T.obj _ _ st5 b hb
      exact (I7.pin (b,o) (List.mem_append_right _ (List.mem_append_right _ (mem_pinsAt hb e)))).2.1
    cases f with
    | next=>obtain ⟨σ7,H7,I7,n7⟩:=q7; exact again I7 n7
    | cont=>obtain ⟨σ7,H7,I7,n7⟩:=q7; exact again I7 n7
    | brk=>obtain ⟨σ7,H7,I7,q7⟩:=q7; exact ⟨σ7,H7,I7.unpinned,q7⟩
    | ret v=>obtain ⟨x7,σ7,H7,I7,r7,q7⟩:=q7; exact ⟨x7,σ7,H7,I7.unpinned,r7,q7⟩
end
end L2
namespace L2
open PySem PySem.Spec PyProof.Rows
noncomputable abbrev R2:=V→V→Hp→VK→Prop
noncomputable def OpR (X:Cx)(f:Value→Value→Sem Value)(r:R2):Prop:=
  ∀ (pins:List (Addr×Obj)) (s:Shared) (σ:St) (H:Hp) (x y:V) (v u:Value) (Q:VK),Inv X pins σ H s→RelV x v→RelV y u→r x y H Q→
    wpAny (model X.prog X.w) X.A (f v u) (EP X pins σ Q) X.xe s
noncomputable def UnR (X:Cx)(f:Value→Sem Value)(r:V→Hp→VK→Prop):Prop:=
  ∀ (pins:List (Addr×Obj)) (s:Shared) (σ:St) (H:Hp) (x:V) (v:Value) (Q:VK),Inv X pins σ H s→RelV x v→r x H Q→
    wpAny (model X.prog X.w) X.A (f v) (EP X pins σ Q) X.xe s
noncomputable def CallR (X:Cx)(f:Value)(r:List V→Hp→VK→Prop):Prop:=
  ∀ (pins:List (Addr×Obj)) (s:Shared) (σ:St) (H:Hp) (xs:List V) (us:List Value) (Q:VK),Inv X pins σ H s→Vals xs us→r xs H Q→
    wpAny (model X.prog X.w) X.A (call f us) (EP X pins σ Q) X.xe s
noncomputable def tOp (r:R2)(ta tb:TE):TE:=fun σ H Q=>ta σ H fun x H1=>tb σ H1 fun y H2=>r x y H2 Q
noncomputable def tUn (r:V→Hp→VK→Prop)(ta:TE):TE:=fun σ H Q=>ta σ H fun x H1=>r x H1 Q
noncomputable def rI (C:Int→Int→Prop)(g:Int→Int→V):R2:=fun x y H Q=>∃ i j,x=.int i∧y=.int j∧C i j∧Q (g i j) H
inductive rI0 (g:Int→Int→V)(x:V)(y:V)(H:Hp)(Q:VK):Prop
  | mk:∀ i j,(x=.int i)→(y=.int j)→(Q (g i j) H)→rI0 g x y H Q
noncomputable def rU (g:Int→V):V→Hp→VK→Prop:=fun x H Q=>∃ i,x=.int i∧Q (g i) H
section
variable {X:Cx}{a b c:Expr}{ta tb tc:TE}{pos:Pos}
theorem binT (ha:PE X a ta)(hb:PE X b tb){pins:List (Addr×Obj)}{s:Shared}{σ:St}{H:Hp}{R:V→V→Hp→Prop}(I:Inv X pins σ H s)
    (h:ta σ H fun x H1=>tb σ H1 fun y H2=>R x y H2) {Q:Value→Shared→Prop} {f:Value→Value→Sem Value}
    (hf:∀ v u s2 x y H2,Inv X pins σ H2 s2→RelV x v→RelV y u→R x y H2→wpAny (model X.prog X.w) X.A (f v u) Q X.xe s2):
    wpAny (model X.prog X.w) X.A (eval a X.env) (fun v s₁=>wpAny (model X.prog X.w) X.A (eval b X.env) (fun u s₂=>wpAny (model X.prog X.w) X.A (f v u) Q X.xe s₂) X.xe s₁) X.xe s:=by
  refine thn (ha pins s σ H _ I h) fun v s1 zq=>?_
  obtain ⟨x,H1,I1,r1,q1⟩:=zq
  refine thn (hb pins s1 σ H1 _ I1 q1) fun u s2 zq=>?_
  obtain ⟨y,H2,I2,r2,q2⟩:=zq
  exact hf v u s2 x y H2 I2 r1 r2 q2
theorem pe_op {op:Operator}{r:R2}(ho:OpR X (binaryOp op) r)(ha:PE X a ta)(hb:PE X b tb):PE X (.BinOp a op b pos) (tOp r ta tb):=by
  intro pins s σ H Q I h
  exact wpAny_BinOp (binT ha hb I h fun v u s2 x y H2 I2 rx ry q=>ho pins s2 σ H2 x y v u Q I2 rx ry q)
theorem pe_un {op:UnaryOp}{r:V→Hp→VK→Prop}(ho:UnR X (unaryOp op) r)(ha:PE X a ta):PE X (.UnaryOp op a pos) (tUn r ta):=by
  intro pins s σ H Q I h
  exact UnaryOp_ (thn (ha pins s σ H _ I h) fun v s1 ⟨x,H1,I1,r1,q1⟩=>ho pins s1 σ H1 x v Q I1 r1 q1)
theorem opI {f:Value→Value→Sem Value}{C:Int→Int→Prop}{g:Int→Int→Int}
    (rule:∀ (i j:Int) (t u:Tok) (s:Shared) (Q:Value→Shared→Prop) (E:Value→Shared→Prop),C i j→Q (.int (g i j) s.toks) { s with toks:=s.toks+1 }→wpAny (model X.prog X.w) X.A (f (.int i t) (.int j u)) Q E s):
    OpR X f (rI C fun i j=>.int (g i j)):=by
  intro pins s σ H x y v u Q I rx ry h
  obtain ⟨i,j,rfl,rfl,hc,q⟩:=h
  obtain ⟨t,rfl⟩:=rx
  obtain ⟨t',rfl⟩:=ry
  exact rule i j t t' s _ _ hc ⟨.int (g i j),H,I.tok _,⟨_,rfl⟩,q⟩
theorem opI0 {f:Value→Value→Sem Value}{g:Int→Int→Int}
    (rule:∀ (i j:Int) (t u:Tok) (s:Shared) (Q:Value→Shared→Prop) (E:Value→Shared→Prop),Q (.int (g i j) s.toks) { s with toks:=s.toks+1 }→wpAny (model X.prog X.w) X.A (f (.int i t) (.int j u)) Q E s):
    OpR X f (rI0 fun i j=>.int (g i j)):=by
  intro pins s σ H x y v u Q I rx ry h
  obtain ⟨i,j,rfl,rfl,q⟩:=h
  obtain ⟨t,rfl⟩:=rx
  obtain ⟨t',rfl⟩:=ry
  exact rule i j t t' s _ _ ⟨.int (g i j),H,I.tok _,⟨_,rfl⟩,q⟩
theorem opB0 {f:Value→Value→Sem Value}{g:Int→Int→Bool}
    (rule:∀ (i j:Int) (t u:Tok) (s:Shared) (Q:Value→Shared→Prop) (E:Value→Shared→Prop),Q (.bool (g i j)) s→wpAny (model X.prog X.w) X.A (f (.int i t) (.int j u)) Q E s):
    OpR X f (rI0 fun i j=>.bl (g i j)):=by
  intro pins s σ H x y v u Q I rx ry h
  obtain ⟨i,j,rfl,rfl,q⟩:=h
  obtain ⟨t,rfl⟩:=rx
  obtain ⟨t',rfl⟩:=ry
  exact rule i j t t' s _ _ ⟨.bl (g i j),H,I,rfl,q⟩
noncomputable def CDiv (i j:Int):Prop:=0 < j∧j < 1073741824
noncomputable def CPow (i j:Int):Prop:=0≤j∧j≤1000000∧i.natAbs < 2 ^ 64
noncomputable def CMul (i j:Int):Prop:=(-(2 ^ 64) < i∧i < 2 ^ 64)∨(-(2 ^ 64) < j∧j < 2 ^ 64)
theorem CMul.ok {i j:Int}(h:CMul i j):IntMulOk i j:=by
  rcases h with ⟨h1,h2⟩ | ⟨h1,h2⟩
  · exact .of_left (intBits_le_64 h1 h2)
  · exact .of_right (intBits_le_64 h1 h2)
theorem op_add:OpR X (binaryOp .Add) (rI0 fun i j=>.int (i+j)):=opI0 fun _ _ _ _ _ _ _ q=>add_int q
theorem op_sub:OpR X (binaryOp .Sub) (rI0 fun i j=>.int (i - j)):=opI0 fun _ _ _ _ _ _ _ q=>sub_int q
theorem op_mul:OpR X (binaryOp .Mult) (rI CMul fun i j=>.int (i*j)):=opI fun _ _ _ _ _ _ _ hc q=>mul_int q hc.ok
theorem op_fdiv:OpR X (binaryOp .FloorDiv) (rI CDiv fun i j=>.int (i / j)):=opI fun i j _ _ _ _ _ hc q=>by
  have h1:(0:Int) < j:=hc.1
  have h2:j < 1073741824:=hc.2
  exact floordiv_int (by lia) (by rw [Int.fdiv_eq_ediv_of_nonneg i (by lia)]; exact q) (.inl (PyProof.noPylong_small (by lia)))
theorem op_mod:OpR X (binaryOp .Mod) (rI (fun _ j=>0 < j) fun i j=>.int (i % j)):=opI fun i j _ _ _ _ _ hc q=>by
  have h1:(0:Int) < j:=hc
  exact mod_int' (by lia) (by rw [Int.fmod_eq_emod_of_nonneg i (by lia)]; exact q)
theorem op_pow:OpR X (binaryOp .Pow) (rI CPow fun i j=>.int (i ^ j.toNat)):=opI fun _ _ _ _ _ _ _ hc q=>pow_int_small hc.1 hc.2.1 hc.2.2 q
theorem unI {f:Value→Sem Value}{g:Int→Int}
    (rule:∀ (i:Int) (t:Tok) (s:Shared) (Q:Value→Shared→Prop) (E:Value→Shared→Prop),Q (.int (g i) s.toks) { s with toks:=s.toks+1 }→wpAny (model X.prog X.w) X.A (f (.int i t)) Q E s):
    UnR X f (rU fun i=>.int (g i)):=by
  intro pins s σ H x v Q I rx h
  obtain ⟨i,rfl,q⟩:=h
  obtain ⟨t,rfl⟩:=rx
  exact rule i t s _ _ ⟨.int (g i),H,I.tok _,⟨_,rfl⟩,q⟩
theorem un_neg:UnR X (unaryOp .USub) (rU fun i=>.int (-i)):=unI fun _ _ _ _ _ q=>neg_int q
end
section
variable {X:Cx}{a b c:Expr}{ta tb tc:TE}{pos:Pos}
theorem op_lt:OpR X (compareOp .Lt) (rI0 fun i j=>.bl (decide (i < j))):=opB0 fun _ _ _ _ _ _ _ q=>lt_int q
theorem op_gt:OpR X (compareOp .Gt) (rI0 fun i j=>.bl (decide (j < i))):=opB0 fun _ _ _ _ _ _ _ q=>gt_int q
theorem nomark (b:Expr){op:CmpOp}(h:op≠.In:=by decide)(h2:op≠.NotIn:=by decide):behindInMarks op b=false:=by
  have e1:(op == CmpOp.In)=false:=by cases op<;>first | rfl | exact absurd rfl h
  have e2:(op == CmpOp.NotIn)=false:=by cases op<;>first | rfl | exact absurd rfl h2
  cases b<;>simp [behindInMarks,e1,e2]
theorem pe_cmpR {op:CmpOp}{r:R2}(ho:OpR X (compareOp op) r)(ha:PE X a ta)(hb:PE X b tb)(hm:behindInMarks op b=false):PE X (.Compare a [op] [b] pos) (tOp r ta tb):=by
  intro pins s σ H Q I h
  exact wpAny_Compare1 (binT ha hb I h fun v u s2 x y H2 I2 rx ry q=>ho pins s2 σ H2 x y v u Q I2 rx ry q) hm
noncomputable def tTest (t:TE):TT:=fun σ H Q=>t σ H fun x H'=>∃ k,x=.bl k∧Q k H'
theorem pt_cmpR {op:CmpOp}{r:R2}(ho:OpR X (compareOp op) r)(ha:PE X a ta)(hb:PE X b tb)(hm:behindInMarks op b=false):PT X (.Compare a [op] [b] pos) (tTest (tOp r ta tb)):=by
  intro pins s σ H Q I h
  refine wpAny_isTrue_Compare1 (thn (ha pins s σ H _ I h) fun v s1 ⟨x,H1,I1,r1,q1⟩=>thn (hb pins s1 σ H1 _ I1 q1) fun u s2 ⟨y,H2,I2,r2,q2⟩=>
    thn (ho pins s2 σ H2 x y v u _ I2 r1 r2 q2) fun c s3 ⟨z,H3,I3,r3,k,e,q3⟩=>?_) hm
  subst e
  cases r3
  exact wpAny_truthy_bool ⟨H3,I3,q3⟩
theorem line63:(sizeLine:Nat) < 2 ^ 63:=by rw [sizeLine_eq]; decide
theorem vals1 {x:V}{us:List Value}(r:Vals [x] us):∃ u,us=[u]∧RelV x u:=by
  cases r with
  | cons r1 r2=>cases r2; exact ⟨_,rfl,r1⟩
theorem vals2 {x y:V}{us:List Value}(r:Vals [x,y] us):∃ u w',us=[u,w']∧RelV x u∧RelV y w':=by
  cases r with
  | cons r1 r2=>
    cases r2 with
    | cons r3 r4=>cases r4; exact ⟨_,_,rfl,r1,r3⟩
theorem call_int1:CallR X (.type "int") (fun xs H Q=>(∃ i,xs=[.int i]∧Q (.int i) H)∨∃ k,xs=[.bl k]∧Q (.int (if k then 1 else 0)) H):=by
  intro pins s σ H xs us Q I r h
  rcases h with ⟨i,rfl,q⟩ | ⟨k,rfl,q⟩
  · obtain ⟨u,rfl,t,rfl⟩:=vals1 r
    exact call_int_int ⟨.int i,H,I,⟨_,rfl⟩,q⟩
  · obtain ⟨u,rfl,r1⟩:=vals1 r
    cases r1
    exact call_int_bool ⟨.int (if k then 1 else 0),H,I.tok _,⟨_,rfl⟩,q⟩
end
end L2
namespace L2
open PySem PySem.Spec PyProof.Rows
structure Room (k:Nat)(A:Around):Prop where
  hd:A.handled=none
  dp:A.depth+3*k+5 < recursionLimit
  un:A.units+16*k+200 < cLine
theorem Room.mono {j k:Nat}{A:Around}(r:Room k A)(h:j≤k):Room j A:=⟨r.hd,by have:=r.dp; lia,by have:=r.un; lia⟩
theorem Room.deeper {k:Nat}{A:Around}(r:Room (k+1) A)(env:Env):Room k (A.deeper env):=
  ⟨r.hd,by have:=r.dp; show A.depth+1+3*k+5 < _; lia,by have:=r.un; show A.units+3+16*k+200 < _; lia⟩
theorem Room.depth {k:Nat}{A:Around}(r:Room k A):A.depth < recursionLimit:=by have:=r.dp; lia
theorem Room.units {k:Nat}{A:Around}(r:Room k A):A.units+64 < cLine:=by have:=r.un; lia
noncomputable def tNil:TA:=fun _ H Q=>Q [] H
noncomputable def tCons (ta:TE)(tr:TA):TA:=fun σ H Q=>ta σ H fun x H1=>tr σ H1 fun xs H2=>Q (x::xs) H2
section
variable {X:Cx}{e:Expr}{es:List Expr}{te:TE}{t:TA}{pos:Pos}
theorem pa_nil:PA X [] tNil:=fun _ _ _ _ H Q I h=>Calls.spliced_nil ⟨[],H,I,.nil,h⟩
theorem pa_cons (ha:PE X e te)(hr:PA X es t)(hs:starEach (e::es) X.env=(false,eval e X.env)::starEach es X.env:=by rfl):PA X (e::es) (tCons te t):=by
  intro pos pins s σ H Q I h
  rw [hs]
  show wpAny _ _ (spliced ((false,eval e X.env)::backTo pos (starEach es X.env))) _ _ s
  refine Calls.spliced_cons (thn (ha pins s σ H _ I h) fun u s1 zq=>?_)
  obtain ⟨x,H1,I1,r1,q1⟩:=zq
  exact thn (hr pos pins s1 σ H1 _ I1 q1) fun us s2 ⟨xs,H2,I2,r2,q2⟩=>⟨x::xs,H2,I2,.cons r1 r2,q2⟩
noncomputable def tTup (t:TA):TE:=fun σ H Q=>t σ H fun xs H1=>xs.length≤sizeLine∧∀ p,H1 p=none→Q (.ref p) (upd H1 p (.tup xs))
noncomputable def tLst (t:TA):TE:=fun σ H Q=>t σ H fun xs H1=>xs.length≤sizeLine∧∀ p,H1 p=none→Q (.ref p) (upd H1 p (.lst xs))
theorem pe_tup {x1}(h:PA X es t):PE X (.Tuple es x1 pos) (tTup t):=by
  intro pins s σ H Q I hq
  refine wpAny_Tuple_spliced (thn (h pos pins s σ H _ I hq) fun us s1 ⟨xs,H1,I1,r,z,q⟩=>⟨by rw [←r.length]; exact z,?_⟩)
  have hf:H1 s1.heap.objs.size=none:=I1.hok.fresh (Nat.le_refl _)
  refine ⟨.ref s1.heap.objs.size,upd H1 s1.heap.objs.size (.tup xs),I1.laid (t':=s1.toks) (fun b u e=>Heap.get?_push_of_some _ e) (Nat.le_refl _) ?_,rfl,q _ hf⟩
  exact ⟨z,us,r,⟨_,Heap.get?_push_size _ rfl,rfl,_,rfl⟩⟩
theorem pe_lst (h:PA X es t):PE X (.List es pos) (tLst t):=by
  intro pins s σ H Q I hq
  refine wpAny_List_spliced (thn (h pos pins s σ H _ I hq) fun us s1 ⟨xs,H1,I1,r,z,q⟩=>⟨by rw [←r.length]; exact z,?_⟩)
  have hf:H1 s1.heap.objs.size=none:=I1.hok.fresh (Nat.le_refl _)
  refine ⟨.ref s1.heap.objs.size,upd H1 s1.heap.objs.size (.lst xs),I1.laid (t':=s1.toks) (fun b u e=>Heap.get?_push_of_some _ e) (Nat.le_refl _) ?_,rfl,q _ hf⟩
  exact ⟨z,us,0,r,Heap.get?_push_size _ rfl⟩
end
noncomputable abbrev Sp:=List V→Hp→VK→XK→Prop
noncomputable abbrev CXT:=List Env→Hp→Shared→XK→Value→Shared→Prop
structure Env0 (P:Program)(w:World)(K:PySem.W.Frag)(mg:Str→Option Value)(base:Heap)(A:Around)(outer:List Env)(s:Shared)(H:Hp):Prop where
  frames:A.frames=some outer
  mod:Mod K mg base
  bs:∀ b o,base.get? b=some o→s.heap.get? b=some o∧H b=none
  bsz:base.objs.size≤s.heap.objs.size
  funs:s.heap.FunFrames base outer
  frf:∀ b∈frs outer,H b=none
  hok:HOk P w H s.heap
  bare:AllBare s.gens
inductive CE (outer:List Env)(P:Program)(w:World)(H:Hp)(s:Shared)(Q:VK)(u:Value)(s':Shared):Prop
  | mk:∀ v H',(s'.os=s.os)→(AllBare s'.gens)→(Un (frs outer) [] H H' s.heap s'.heap)→(HOk P w H' s'.heap)→(RelV v u)→(Q v H')→CE outer P w H s Q u s'
noncomputable def CR (CX:CXT)(outer:List Env)(P:Program)(w:World)(H:Hp)(s:Shared)(Q:VK)(E:XK)(r:Result)(s':Shared):Prop:=
  match r with
  | .ok (.ret u)=>CE outer P w H s Q u s'
  | .ok _=>False
  | .error e=>CX outer H s E e s'
structure FnOk (P:Program)(w:World)(K:PySem.W.Frag)(mg:Str→Option Value)(base:Heap)(CX:CXT)(k:Nat)(f:Addr)(fd:FuncData)(ps:List Str)(sp:Sp):Prop where
  len:∀ vs H Q E,sp vs H Q E→vs.length=ps.length
  run:∀ (A:Around) (outer:List Env) (s:Shared) (H:Hp) (args:Args) (us:List Value) (vs:List V) (Q:VK) (E:XK),Room k A→Env0 P w K mg base A outer s H→BindsTo s fd args (ps.zip us)→Vals vs us→sp vs H Q E→
    codeAny (model P w) A (.call (.ref f) args) (CR CX outer P w H s Q E) s
section
variable {X:Cx}{pins:List (Addr×Obj)}{σ:St}{H:Hp}{s s':Shared}
theorem Inv.env0 (I:Inv X pins σ H s):Env0 X.prog X.w X.K X.mg X.base X.A X.stack s H:=
  ⟨I.ok.frames,I.ok.mod,I.bs,Nat.le_trans I.ok.bsz I.sz,I.stack,I.stkFree,I.hok,I.bare⟩
theorem Inv.after {Q:VK}{u:Value}(I:Inv X pins σ H s)(h:CE X.stack X.prog X.w H s Q u s'):EP X pins σ Q u s':=by
  obtain ⟨v,H',os,bare,un,hok,r,q⟩:=h
  obtain ⟨hh,g,d,t,os'⟩:=s'
  obtain rfl:os'=s.os:=os
  exact ⟨v,H',I.call (h':=hh) (g':=g) (d':=d) (t':=t) (ch:=[]) un hok bare (fun b z=>absurd z (by simp)),r,q⟩
end
noncomputable def tCall (sp:Sp)(dvs:List V)(E:XK)(t:TA):TE:=fun σ H Q=>t σ H fun vs H1=>sp (vs++dvs) H1 Q E
noncomputable def Binds (K:PySem.W.Frag)(fd:FuncData)(ps:List Str)(ds:List Value):Prop:=
  ∀ (s:Shared) (us:List Value),K.In s.heap→(us++ds).length=ps.length→BindsTo s fd ⟨us,[]⟩ (ps.zip (us++ds))
theorem Binds.all {K:PySem.W.Frag}{fd:FuncData}{ps:List Str}(h:∀ us:List Value,us.length=ps.length→bindArgs fd ⟨us,[]⟩=pure (ps.zip us)):Binds K fd ps []:=fun s us _ hl=>by
  rw [List.append_nil] at hl ⊢
  exact .of_eq (h us hl)
noncomputable def Passes (CX:CXT)(X:Cx)(E:XK):Prop:=∀ (pins:List (Addr×Obj)) (σ:St) (H:Hp) (s:Shared) (e:Value) (s':Shared),Inv X pins σ H s→CX X.stack H s E e s'→X.xe e s'
section
variable {X:Cx}{CX:CXT}{k:Nat}{f C:Addr}{fd:FuncData}{ps:List Str}{sp:Sp}{dvs:List V}{ds:List Value}{E:XK}{x m:Str}{p pos apos:Pos}{e o:Expr}{es:List Expr}{ta:TE}{t:TA}
theorem run_fn {pins:List (Addr×Obj)}{σ:St}{H:Hp}{s:Shared}{Q:VK}{us:List Value}{vs:List V}(F:FnOk X.prog X.w X.K X.mg X.base CX k f fd ps sp)(hr:Room k X.A)(hb:Binds X.K fd ps ds)(hd:Vals dvs ds)(hx:Passes CX X E)
    (I:Inv X pins σ H s) (r:Vals vs us) (h:sp (vs++dvs) H Q E):wpAny (model X.prog X.w) X.A (call (.ref f) us) (EP X pins σ Q) X.xe s:=by
  have r2:Vals (vs++dvs) (us++ds):=r.append hd
  have hl:(us++ds).length=ps.length:=by rw [←r2.length]; exact F.len _ _ _ _ h
  refine wpAny_call (codeAny_mono (F.run X.A X.stack s H ⟨us,[]⟩ (us++ds) (vs++dvs) Q E hr I.env0 (hb s us I.kIn hl) r2 h) fun r s' hq=>?_)
  cases r with
  | error e=>exact hx pins σ H s e s' I hq
  | ok fl=>
    cases fl with
    | ret u=>exact I.after hq
    | next=>exact False.elim hq
    | brk=>exact False.elim hq
    | cont=>exact False.elim hq
theorem pe_call (F:FnOk X.prog X.w X.K X.mg X.base CX k f fd ps sp)(hr:Room k X.A)(hg:Gl X x)(hm:X.mg x=some (.ref f))(hk:PySem.W.keepIn X.K (.ref f)=true)(hb:Binds X.K fd ps ds)(hd:Vals dvs ds)(hx:Passes CX X E)
    (ha:PA X (e::es) t) (hdb:(x == ("__debug__" : Str))=false:=by decide) (he:starEach (e::es) X.env=(false,eval e X.env)::starEach es X.env:=by rfl) (hpl:(backTo pos (starEach es X.env)).any (·.1)=false:=by rfl):
    PE X (.Call (.Name x p) (e::es) [] pos) (tCall sp dvs E t):=by
  intro pins s σ H Q I h
  refine wpAny_Call_Name_kw (ld_glob I hg hm ?_ hdb)
  refine PySem.W.callWith_K (h₀:=X.base) I.ok.mod.kin hk (thn (ha pos pins s σ H _ I h) fun us s1 ⟨vs,H1,I1,r,q⟩=>⟨I1.kIn,?_⟩) he hpl
  exact run_fn F hr hb hd hx I1 r q
end
structure FnScope (N P:List Str)(sc:Scope):Prop where
  kind:sc.kind=.function
  co:sc.isCoroutine=false
  gen:sc.isGenerator=false
  nd:N.Nodup
  pre:N.take P.length=P
  par:∀ x∈P,sc.names.lookup x=some .local∨sc.names.lookup x=some .cell
  nofree:∀ y∈sc.names,y.2≠.free
theorem bindL_out {kindOf:Str→Option NameKind}{x:Str}:∀ {binds:List (Str×Value)} {m:Str→Option Value},(∀ v,(x,v)∉binds)→bindL kindOf binds m x=m x
  | [],_,_=>rfl
  | (n,v)::r,m,h=>by
    unfold bindL
    rw [bindL_out fun w hw=>h w (List.mem_cons_of_mem _ hw)]
    split
    · have:x≠n:=by rintro rfl; exact h v List.mem_cons_self
      simp [this]
    · rfl
theorem bindC_out {kindOf:Str→Option NameKind}{x:Str}:∀ {binds:List (Str×Value)} {m:Str→Option Value},(∀ v,(x,v)∉binds)→bindC kindOf binds m x=m x
  | [],_,_=>rfl
  | (n,v)::r,m,h=>by
    unfold bindC
    rw [bindC_out fun w hw=>h w (List.mem_cons_of_mem _ hw)]
    split
    · rfl
    · have:x≠n:=by rintro rfl; exact h v List.mem_cons_self
      simp [this]
theorem bindL_get {kindOf:Str→Option NameKind}{x:Str}{v:Value}:∀ {P:List Str} {vs:List Value} {i:Nat} {m:Str→Option Value},P.Nodup→P[i]?=some x→vs[i]?=some v→kindOf x=some .local→
    bindL kindOf (P.zip vs) m x=some v
  | [],_,_,_,_,h,_,_=>by simp at h
  | _::_,[],_,_,_,_,h,_=>by simp at h
  | p::P,w::vs,0,m,nd,h1,h2,hk=>by
    simp at h1 h2; subst h1; subst h2
    show bindL kindOf ((p,w)::P.zip vs) m p=_
    unfold bindL
    rw [bindL_out fun v hv=>(List.nodup_cons.mp nd).1 (List.of_mem_zip hv).1,if_pos hk]
    simp
  | p::P,w::vs,i+1,m,nd,h1,h2,hk=>by
    show bindL kindOf ((p,w)::P.zip vs) m x=_
    unfold bindL
    exact bindL_get (i:=i) (List.nodup_cons.mp nd).2 (by simpa using h1) (by simpa using h2) hk
theorem bindC_get {kindOf:Str→Option NameKind}{x:Str}{v:Value}:∀ {P:List Str} {vs:List Value} {i:Nat} {m:Str→Option Value},P.Nodup→P[i]?=some x→vs[i]?=some v→kindOf x≠some .local→
    bindC kindOf (P.zip vs) m x=some v
  | [],_,_,_,_,h,_,_=>by simp at h
  | _::_,[],_,_,_,_,h,_=>by simp at h
  | p::P,w::vs,0,m,nd,h1,h2,hk=>by
    simp at h1 h2; subst h1; subst h2
    show bindC kindOf ((p,w)::P.zip vs) m p=_
    unfold bindC
    rw [bindC_out fun v hv=>(List.nodup_cons.mp nd).1 (List.of_mem_zip hv).1,if_neg hk]
    simp
  | p::P,w::vs,i+1,m,nd,h1,h2,hk=>by
    show bindC kindOf ((p,w)::P.zip vs) m x=_
    unfold bindC
    exact bindC_get (i:=i) (List.nodup_cons.mp nd).2 (by simpa using h1) (by simpa using h2) hk
noncomputable def start (N:List Str)(vs:List V):St:=vs.map some++List.replicate (N.length - vs.length) none
noncomputable def cxOf (CX:CXT)(P:Program)(w:World)(K:PySem.W.Frag)(mg:Str→Option Value)(base:Heap)(N:List Str)(qual:Str)(scope:Scope)(f:Addr)(cd:Value)(A:Around)(outer:List Env)(s:Shared)(H:Hp)(E:XK):Cx where
  prog:=P
  w:=w
  K:=K
  mg:=mg
  base:=base
  A:=A.deeper (envOfC qual scope s.heap.objs.size f cd)
  N:=N
  s₀:=s
  H₀:=H
  env:=envOfC qual scope s.heap.objs.size f cd
  outer:=outer
  stack:=envOfC qual scope s.heap.objs.size f cd::outer
  ex:=[]
  calm:=true
  fn:=fun _=>true
  pn:=[]
  xe:=fun e s'=>wpAny (model P w) (A.deeper (envOfC qual scope s.heap.objs.size f cd)) (leaving (envOfC qual scope s.heap.objs.size f cd) e) (fun _ s''=>CX outer H s E e s'') (fun e' s''=>CX outer H s E e' s'') s'
theorem cell_has {sc:Scope}{n:Nat}{x:Str}(h:sc.names.lookup x=some .cell):∃ c,(cellsFrom n sc.names []).lookup x=some c:=by
  have q:=PySem.W.cellsFrom_some sc.names n [] (.inl h)
  exact Option.isSome_iff_exists.mp q
theorem inv_start {CX:CXT}{P:Program}{w:World}{K:PySem.W.Frag}{mg:Str→Option Value}{base:Heap}{N ps:List Str}{qual:Str}{scope:Scope}{f:Addr}{cd:Value}{A:Around}{outer:List Env}{s s1:Shared}{H:Hp}{E:XK}{us:List Value}{vs:List V}
    (S:FnScope N ps scope) (hd:A.handled=none) (e0:Env0 P w K mg base A outer s H) (hl:vs.length=ps.length) (r:Vals vs us)
    (x:InCallC s s.heap.objs.size (bindL (envOfC qual scope s.heap.objs.size f cd).kindOf (ps.zip us) fun _=>none) (cellsFrom (s.heap.objs.size+1) scope.names []) (bindC (envOfC qual scope s.heap.objs.size f cd).kindOf (ps.zip us) fun _=>none) s1):
    Inv (cxOf CX P w K mg base N qual scope f cd A outer s H E) [] (start N vs) H s1:=by
  have hpl:ps.length≤N.length:=by have:=congrArg List.length S.pre; rw [List.length_take] at this; lia
  obtain ⟨h1,tk,rfl,hk⟩:=x.done
  have noA:∀ b:Addr,b∉(cxOf CX P w K mg base N qual scope f cd A outer s H E).ex:=fun b z=>absurd (show b∈([]:List Addr) from z) (by simp)
  refine ⟨⟨e0.mod,S.kind,rfl,rfl,Nat.le_refl _,fun y z c h1 h2=>?_,fun y hy=>?_,fun y c _ h=>?_,fun _=>hd,Around.frames_deeper e0.frames,.inr ⟨rfl,rfl⟩,fun b z=>absurd z (noA b),e0.bs,e0.bsz,fun b _ _=>noA b,fun b z=>absurd z (noA b),e0.funs,e0.frf⟩,
    rfl,e0.bare,Un.kept hk,⟨_,x.toInCall.ns,fun i y v h1 h2 h3=>?_⟩,fun y c h=>⟨_,x.cell y c h⟩,e0.hok.fresh (Nat.le_refl _),fun y c h=>?_,fun p hp=>absurd (show p∈([]:List (Addr×Obj)) from hp) (by simp),e0.hok.kept hk,?_⟩
  · exact name_of_addr x.apart (PySem.mem_of_lookup h1) (PySem.mem_of_lookup h2)
  · have hy:scope.names.lookup y=some .cell∨scope.names.lookup y=some .free:=hy
    rcases hy with hy | hy
    · exact cell_has hy
    · exact absurd rfl (S.nofree _ (PySem.mem_of_lookup hy))
  · exact Nat.le_of_lt (x.above y c (PySem.mem_of_lookup h))
  · have hi:i < vs.length:=by
      unfold start at h2
      by_cases hi:i < vs.length
      · exact hi
      · rw [List.getElem?_append_right (by simpa using hi)] at h2
        rw [List.getElem?_replicate] at h2
        split at h2<;>cases h2
    have ha:vs[i]?=some v:=by
      unfold start at h2
      rw [List.getElem?_append_left (by simpa using hi),List.getElem?_map] at h2
      cases e:vs[i]? with
      | none=>rw [e] at h2; cases h2
      | some a=>rw [e] at h2; cases h2; rfl
    obtain ⟨u,hu,rv⟩:=r.get ha
    have hp:ps[i]?=some y:=by
      rw [←S.pre,List.getElem?_take_of_lt (by lia)]; exact h1
    have ndP:ps.Nodup:=by rw [←S.pre]; exact S.nd.sublist (List.take_sublist _ _)
    refine ⟨u,rv,?_⟩
    rcases S.par y (List.mem_of_getElem? hp) with k | k
    · exact .inl ⟨k,bindL_get ndP hp hu k⟩
    · obtain ⟨c,e⟩:=cell_has (n:=s.heap.objs.size+1) k
      refine .inr ⟨.inl k,c,e,?_⟩
      have q:=x.cell y c e
      rw [bindC_get ndP hp hu (by show scope.names.lookup y≠_; rw [k]; decide)] at q
      exact q
  · exact e0.hok.fresh (Nat.le_of_lt (x.above y c (PySem.mem_of_lookup h)))
  · unfold start
    show _=N.length
    rw [List.length_append,List.length_map,List.length_replicate]
    lia
theorem fn_of {CX:CXT}{P:Program}{w:World}{K:PySem.W.Frag}{mg:Str→Option Value}{base:Heap}{k:Nat}{f:Addr}{name qual:Str}{params:Arguments}{body:List Stmt}{scope:Scope}{dV kV doc pm cdv ct oc:Value}{an od:Option Addr}
    {osl:Array (Option Value)} {N ps:List Str} {sp:Sp} (lk:K.lookup f=some ⟨oc,od,.func (PySem.W.fnOf name qual params body scope dV kV doc pm an cdv ct),osl⟩) (hcd:PySem.W.codeIn K cdv qual=true) (S:FnScope N ps scope)
    (len:∀ vs H Q E,sp vs H Q E→vs.length=ps.length)
    (hbody:∀ (A:Around) (outer:List Env) (s:Shared) (H:Hp) (vs:List V) (Q:VK) (E:XK),Room k (A.deeper (envOfC qual scope s.heap.objs.size f cdv))→sp vs H Q E→
      ∃ t,PSs (cxOf CX P w K mg base N qual scope f cdv A outer s H E) body t∧t { nx:=fun _ H'=>Q .non H',rt:=Q } (start N vs) H):
    FnOk P w K mg base CX (k+1) f (PySem.W.fnOf name qual params body scope dV kV doc pm an cdv ct) ps sp:=by
  refine ⟨len,fun A outer s H args us vs Q E hr e0 hb r hsp=>?_⟩
  have hl:=len _ _ _ _ hsp
  have KX:K.In s.heap:=e0.mod.kin.keeps fun b o e=>(e0.bs b o e).1
  have lim:s.heap.NoLimit:=e0.mod.nolimit.keeps fun b o e=>(e0.bs b o e).1
  have hkind:∀ y∈ps.zip us,scope.names.lookup y.1=some .local∨(scope.names.lookup y.1=some .cell∧((cellsFrom (s.heap.objs.size+1) scope.names []).lookup y.1).isSome=true):=fun ⟨n,v⟩ hy=>by
    rcases S.par n (List.of_mem_zip hy).1 with q | q
    · exact .inl q
    · exact .inr ⟨q,PySem.W.cellsFrom_some _ _ _ (.inl q)⟩
  refine codeAny_call_function hr.depth (KX _ _ lk) rfl S.co S.gen rfl (PySem.W.codeRec_of KX hcd) (hb _ _ _ _ ?_)
  refine wpAny_newFunctionEnv_cells S.kind hkind fun env he s1 x=>?_
  subst he
  refine ⟨lim.keeps x.toInCall.keep,codeAny_func ?_⟩
  obtain ⟨t,ht,hq⟩:=hbody A outer s H vs Q E (hr.deeper _) hsp
  have I:Inv (cxOf CX P w K mg base N qual scope f cdv A outer s H E) [] (start N vs) H s1:=inv_start S hr.hd e0 hl r x
  refine wpAny_mono (ht [] s1 (start N vs) H _ I hq) (fun fl s' hs=>?_) fun e s' hs=>hs
  have fin:∀ {σ':St} {H':Hp} {v:V} {u:Value},Inv (cxOf CX P w K mg base N qual scope f cdv A outer s H E) [] σ' H' s'→RelV v u→Q v H'→CE outer P w H s Q u s':=
    fun {σ' H' v u} J rv q=>⟨v,H',J.os,J.bare,J.base,J.hok,rv,q⟩
  cases fl with
  | ret u=>
    obtain ⟨v,σ',H',J,rv,q⟩:=hs
    exact fin J rv q
  | next=>
    obtain ⟨σ',H',J,q⟩:=hs
    exact fin (v:=V.non) (u:=Value.none) J rfl q
  | brk=>
    obtain ⟨_,_,_,q⟩:=hs
    exact False.elim q
  | cont=>
    obtain ⟨_,_,_,q⟩:=hs
    exact False.elim q
end L2
namespace L2
open PySem PySem.Spec PyProof.Rows
section
variable {X:Cx}{x:Str}{p pos:Pos}{e:Expr}{es:List Expr}{t:TA}{id T:String}{r:List V→Hp→VK→Prop}
noncomputable def tCB (r:List V→Hp→VK→Prop)(t:TA):TE:=fun σ H Q=>t σ H fun vs H1=>r vs H1 Q
theorem pe_callB (hc:CallR X (.builtin id) r)(hg:Gl X x)(hm:X.mg x=none)(hv:bootBuiltins x=some (.builtin id))(ha:PA X (e::es) t)(hn:x ≠ "__name__" := by decide)(hdb:(x == ("__debug__" : Str))=false:=by decide)
    (he:starEach (e::es) X.env=(false,eval e X.env)::starEach es X.env:=by rfl) (hpl:(backTo pos (starEach es X.env)).any (·.1)=false:=by rfl):PE X (.Call (.Name x p) (e::es) [] pos) (tCB r t):=by
  intro pins s σ H Q I h
  refine wpAny_Call_Name_kw (ld_blt I hg hm hv ?_ hn hdb)
  exact PyProof.Rows.callWith_builtin1 (thn (ha pos pins s σ H _ I h) fun us s1 ⟨vs,H1,I1,r1,q1⟩=>hc pins s1 σ H1 vs us Q I1 r1 q1) he hpl
theorem pe_callTy (hc:CallR X (.type T) r)(hg:Gl X x)(hm:X.mg x=none)(hv:bootBuiltins x=some (.type T))(ha:PA X (e::es) t)(hn:x ≠ "__name__" := by decide)(hdb:(x == ("__debug__" : Str))=false:=by decide)
    (he:starEach (e::es) X.env=(false,eval e X.env)::starEach es X.env:=by rfl) (hpl:(backTo pos (starEach es X.env)).any (·.1)=false:=by rfl):PE X (.Call (.Name x p) (e::es) [] pos) (tCB r t):=by
  intro pins s σ H Q I h
  refine wpAny_Call_Name_kw (ld_blt I hg hm hv ?_ hn hdb)
  exact PyProof.Rows.callWith_type1 (thn (ha pos pins s σ H _ I h) fun us s1 ⟨vs,H1,I1,r1,q1⟩=>hc pins s1 σ H1 vs us Q I1 r1 q1) he hpl
end
end L2
namespace HT
open PySem PyProof.Rows
section
variable {prog:Program}{w:World}{A:Around}{E:Value→Shared→Prop}{s:Shared}
theorem cat_tup {t b:Addr}{vs ws:List Value}{Q:Value→Shared→Prop}(ht:IsTup s.heap t vs.toArray)(hb:IsTup s.heap b ws.toArray)(hv:vs≠[])
    (h1:ws=[]→Q (.ref t) s) (h2:ws≠[]→Q (.ref s.heap.objs.size) { s with heap:=s.heap.push { cls:=.type "tuple",data:=.seq (vs++ws).toArray } })
    (hsz:vs.length+ws.length≤sizeLine):wpAny (model prog w) A (binaryOp .Add (.ref t) (.ref b)) Q E s:=by
  obtain ⟨⟨cls,dd,data,sl⟩,ho,hc,n,hd⟩:=id ht
  obtain ⟨⟨cls2,dd2,data2,sl2⟩,ho2,hc2,n2,hd2⟩:=id hb
  simp only at hc hd hc2 hd2
  subst hc hd hc2 hd2
  have e:vs.toArray++ws.toArray=(vs++ws).toArray:=by simp
  by_cases hw:ws=[]
  · exact concat_meets ⟨_,ho,rfl⟩ ⟨_,ho2,rfl⟩ noFill_tuple_add seq_tuple_add PySem.F.slot_tuple_add PySem.F.entry_tuple_add (PySem.F.args_tuple_add_2 _ _)
      (tuple_addW1 t b vs.toArray ws.toArray n n2 dd dd2 sl sl2 (by simpa using hv) (by simp [hw])) ⟨ho,ho2,h1 hw⟩
  · refine concat_meets ⟨_,ho,rfl⟩ ⟨_,ho2,rfl⟩ noFill_tuple_add seq_tuple_add PySem.F.slot_tuple_add PySem.F.entry_tuple_add (PySem.F.args_tuple_add_2 _ _)
      (tuple_addW2 t b vs.toArray ws.toArray n n2 dd dd2 sl sl2 (by simpa using hv) (by simpa using hw) (by rw [List.size_toArray,List.size_toArray]; exact hsz)) ⟨ho,ho2,?_⟩
    rw [e]
    exact h2 hw
noncomputable def sIx (n d:Nat):Option Int→Nat
  | none=>d
  | some v=>if v < 0 then (v+(n:Int)).toNat else min v.toNat n
theorem sIx_nat (n d k:Nat):sIx n d (some (k:Int))=min k n:=by
  show (if (k:Int) < 0 then ((k:Int)+(n:Int)).toNat else min (k:Int).toNat n)=min k n
  rw [if_neg (by lia),Int.toNat_natCast]
theorem sIx_le (n d:Nat)(hd:d≤n)(o:Option Int):sIx n d o≤n:=by
  cases o with
  | none=>exact hd
  | some v=>
    show (if v < 0 then (v+(n:Int)).toNat else min v.toNat n)≤n
    by_cases hv:v < 0
    · rw [if_pos hv]; lia
    · rw [if_neg hv]; exact Nat.min_le_right _ _
theorem clip_eq (v:Int)(n d:Nat):(if v < 0 then max (v+(n:Int)) 0 else min v (n:Int))=((sIx n d (some v):Nat):Int):=by
  show (if v < 0 then max (v+(n:Int)) 0 else min v (n:Int))=(((if v < 0 then (v+(n:Int)).toNat else min v.toNat n):Nat):Int)
  by_cases hv:v < 0
  · simp only [if_pos hv]; lia
  · simp only [if_neg hv]; lia
theorem adjust_gen (lo hi:Option Int)(n:Nat):Builtin.Slice.sliceAdjust lo hi 1 (n:Int)=(((sIx n 0 lo:Nat):Int),((sIx n n hi:Nat):Int)):=by
  have h1:¬ ((1:Int) < 0):=by lia
  unfold Builtin.Slice.sliceAdjust
  simp only [h1,if_false]
  refine Prod.ext ?_ ?_
  · cases lo with
    | none=>rfl
    | some v=>exact clip_eq v n 0
  · cases hi with
    | none=>rfl
    | some v=>exact clip_eq v n n
theorem places_gen (i j:Nat):Builtin.Slice.slicePlaces (i:Int) (j:Int) 1=j - i:=by
  unfold Builtin.Slice.slicePlaces
  have h1:(1:Int) > 0:=by lia
  simp only [h1,if_true,Int.ediv_one]
  split<;>lia
theorem slicePart_ {v:Value}{o:Option Int}{Q:Option Int→Shared→Prop}(p:IsPart v o)(h:Q o s):wpAny (model prog w) A (Builtin.Slice.slicePartIndex v) Q E s:=by
  cases p with
  | none=>exact slicePart_none h
  | int i t=>exact slicePart_int h
theorem sliceApplied_gen {sl:Addr}{vl vu:Value}{lo hi:Option Int}{n:Nat}{Q:Int×Int×Nat→Shared→Prop}(hs:s.heap.IsSliceOf sl vl vu .none)(pl:IsPart vl lo)(pu:IsPart vu hi)
    (h:Q (((sIx n 0 lo:Nat):Int),1,sIx n n hi - sIx n 0 lo) s):wpAny (model prog w) A (Builtin.Slice.sliceApplied (.ref sl) (pure (n:Int))) Q E s:=by
  obtain ⟨os,hos,hcs,hds⟩:=id hs
  unfold Builtin.Slice.sliceApplied Builtin.Slice.sliceFields
  refine wpAny_bind (wpAny_bind (wpAny_field hos hds (x:=vl) rfl (wpAny_bind (wpAny_field hos hds (x:=vu) rfl (wpAny_bind (wpAny_field hos hds (x:=.none) rfl (wpAny_pure ?_)))))))
  refine wpAny_bind (slicePart_none ?_)
  show wpAny _ _ (if ((1:Int) == 0)=true then _ else _) _ _ s
  rw [if_neg (by decide)]
  refine wpAny_bind (slicePart_ pl (wpAny_bind (slicePart_ pu (wpAny_bind (wpAny_pure ?_)))))
  show wpAny _ _ (match Builtin.Slice.sliceAdjust lo hi 1 (n:Int) with | (lo,hi)=>pure (lo,(1:Int),Builtin.Slice.slicePlaces lo hi 1)) _ _ s
  rw [adjust_gen lo hi n]
  show wpAny _ _ (pure (((sIx n 0 lo:Nat):Int),(1:Int),Builtin.Slice.slicePlaces ((sIx n 0 lo:Nat):Int) ((sIx n n hi:Nat):Int) 1)) _ _ s
  rw [places_gen]
  exact wpAny_pure h
theorem pick_gen (xs:Array Value)(i k:Nat):((List.range k).filterMap fun (m:Nat)=>xs[((i:Int)+(m:Int)*1).toNat]?).toArray=((xs.toList.drop i).take k).toArray:=by
  have e:(fun (m:Nat)=>xs[((i:Int)+(m:Int)*1).toNat]?)=fun m=>xs[i+m]?:=by
    funext m
    have:((i:Int)+(m:Int)*1).toNat=i+m:=by lia
    rw [this]
  rw [e]
  have:=pick_run xs i k
  rw [List.filterMap_map] at this
  have e2:((fun x=>xs[x]?) ∘ fun x=>i+x)=fun m=>xs[i+m]?:=rfl
  rw [e2] at this
  rw [this]
theorem getItem_tuple_cut {t sl:Addr}{items:Array Value}{vl vu:Value}{lo hi:Option Int}{Q:Value→Shared→Prop}(ht:IsTup s.heap t items)(hs:s.heap.IsSliceOf sl vl vu .none)(pl:IsPart vl lo)(pu:IsPart vu hi)
    (hw:¬ (sIx items.size 0 lo=0∧sIx items.size items.size hi=items.size))
    (h:Q (.ref s.heap.objs.size) { s with heap:=s.heap.push { cls:=.type "tuple",data:=.seq ((items.toList.drop (sIx items.size 0 lo)).take (sIx items.size items.size hi - sIx items.size 0 lo)).toArray } })
    (hsz:items.size≤sizeLine):wpAny (model prog w) A (getItem (.ref t) (.ref sl)) Q E s:=by
  have htake:sizeOk (.seq ((items.toList.drop (sIx items.size 0 lo)).take (sIx items.size items.size hi - sIx items.size 0 lo)).toArray):=by
    show ((items.toList.drop (sIx items.size 0 lo)).take (sIx items.size items.size hi - sIx items.size 0 lo)).toArray.size≤sizeLine
    rw [List.size_toArray,List.length_take,List.length_drop,Array.length_toList]
    lia
  have hj:sIx items.size items.size hi≤items.size:=sIx_le _ _ (Nat.le_refl _) hi
  obtain ⟨os,hos,hcs,hds⟩:=id hs
  have hTs:s.TypeIs (.ref sl) "slice" := ⟨os,hos,hcs⟩
  unfold getItem
  try with_reducible refine wpAny_holding ?_
  first | refine wpAny_bind (wpAny_pure ?_) | skip
  refine wpAny_bind (wpAny_sequenceKey ht.typeIs (by decide) ?_)
  refine wpAny_bind (wpAny_callSpecial?_slot (name:=Str.ofString "__getitem__") ht.typeIs PyProof.Rows.slot_tuple_getitem
    (wpAny_call_entry PyProof.Rows.slot_tuple_getitem ht.typeIs entry_tuple_getitem ?_ (args_tuple_getitem _ _)))
  show wpAny _ _ (Builtin.Tuple.tupleItemsOf (.ref t)>>=_) _ _ s
  refine wpAny_bind (tupleItemsOf_ ht ?_)
  refine wpAny_bind (wpAny_typeOf hTs ?_)
  rw [if_pos (by decide)]
  refine wpAny_bind (sliceApplied_gen hs pl pu ?_)
  have hno:¬ ((((sIx items.size 0 lo:Nat):Int) == 0 && (1:Int) == 1 && (sIx items.size items.size hi - sIx items.size 0 lo) == items.size)=true):=by
    intro q
    rw [Bool.and_eq_true,Bool.and_eq_true] at q
    have q1:((sIx items.size 0 lo:Nat):Int)=0:=eq_of_beq q.1.1
    have q2:sIx items.size items.size hi - sIx items.size 0 lo=items.size:=eq_of_beq q.2
    exact hw ⟨by lia,by lia⟩
  show wpAny _ _ (if (((sIx items.size 0 lo:Nat):Int) == 0 && (1:Int) == 1 && (sIx items.size items.size hi - sIx items.size 0 lo) == items.size)=true then _ else _) _ _ s
  rw [if_neg hno,pick_gen]
  first
    | exact wpAny_bind (m:=Builtin.Tuple.tupleExact _) (wpAny_newObj_type (wpAny_pure ⟨_,rfl,wpAny_pure h⟩) htake)
    | exact wpAny_bind (m:=Builtin.Tuple.tupleExact _) (wpAny_newObj_type (wpAny_bind (wpAny_pure (wpAny_pure ⟨_,rfl,wpAny_pure h⟩))) htake)
    | exact wpAny_bind (wpAny_bind (m:=Builtin.Tuple.tupleExact _) (wpAny_newObj_type (wpAny_pure (wpAny_pure ⟨_,rfl,wpAny_pure h⟩)) htake))
    | exact wpAny_bind (wpAny_bind (m:=Builtin.Tuple.tupleExact _) (wpAny_newObj_type (wpAny_pure ⟨_,rfl,wpAny_pure h⟩) htake))
end
end HT
namespace L2
open PySem PySem.Spec PyProof.Rows
noncomputable abbrev TO:=St→Hp→(Option Int→Hp→Prop)→Prop
noncomputable def PO (X:Cx)(e:Option Expr)(t:TO):Prop:=
  ∀ (pins:List (Addr×Obj)) (s:Shared) (σ:St) (H:Hp) (Q:Option Int→Hp→Prop),Inv X pins σ H s→t σ H Q→
    wpAny (model X.prog X.w) X.A (evalPart e X.env) (fun u s'=>∃ o H',Inv X pins σ H' s'∧IsPart u o∧Q o H') X.xe s
noncomputable def tNoPart:TO:=fun _ H Q=>Q none H
noncomputable def tPart (t:TE):TO:=fun σ H Q=>t σ H fun x H1=>∃ i,x=.int i∧Q (some i) H1
section
variable {X:Cx}{e:Expr}{te:TE}{lo hi:Option Expr}{tl th:TO}{pos p2:Pos}
theorem po_none:PO X none tNoPart:=by
  intro pins s σ H Q I h
  rw [evalPart_none]
  exact wpAny_pure ⟨none,H,I,.none,h⟩
theorem po_some (h:PE X e te):PO X (some e) (tPart te):=by
  intro pins s σ H Q I hw
  rw [evalPart_some]
  refine thn (h pins s σ H _ I hw) fun u s1 zq=>?_
  obtain ⟨x,H1,I1,r1,q1⟩:=zq
  obtain ⟨i,rfl,q⟩:=q1
  obtain ⟨t,rfl⟩:=r1
  exact ⟨some i,H1,I1,.int i t,q⟩
noncomputable def SlR (X:Cx)(r:V→Option Int→Option Int→Hp→VK→Prop):Prop:=
  ∀ (pins:List (Addr×Obj)) (s:Shared) (σ:St) (H:Hp) (x:V) (v vl vu:Value) (lo hi:Option Int) (sl:Addr) (Q:VK),Inv X pins σ H s→RelV x v→s.heap.IsSliceOf sl vl vu .none→IsPart vl lo→IsPart vu hi→r x lo hi H Q→
    ∃ T id,typeLookup (.type T) "__getitem__" = pure (some (.builtin id))∧s.TypeIs v T∧wpAny (model X.prog X.w) X.A (getItem v (.ref sl)) (EP X pins σ Q) X.xe s
theorem SlR.or {r r':V→Option Int→Option Int→Hp→VK→Prop}(h:SlR X r)(h':SlR X r'):SlR X (fun x lo hi H Q=>r x lo hi H Q∨r' x lo hi H Q):=by
  intro pins s σ H x v vl vu lo hi sl Q I rx hs pl pu q
  rcases q with q | q
  · exact h pins s σ H x v vl vu lo hi sl Q I rx hs pl pu q
  · exact h' pins s σ H x v vl vu lo hi sl Q I rx hs pl pu q
noncomputable def tSl (r:V→Option Int→Option Int→Hp→VK→Prop)(te:TE)(tl th:TO):TE:=fun σ H Q=>te σ H fun x H1=>tl σ H1 fun l H2=>th σ H2 fun u H3=>r x l u H3 Q
theorem pe_slice {r:V→Option Int→Option Int→Hp→VK→Prop}(hr:SlR X r)(he:PE X e te)(hl:PO X lo tl)(hu:PO X hi th):PE X (.Subscript e (.Slice lo hi none p2) pos) (tSl r te tl th):=by
  intro pins s σ H Q I h
  refine Subscript_ (thn (he pins s σ H _ I h) fun v s1 zq=>?_)
  obtain ⟨x,H1,I1,r1,q1⟩:=zq
  refine wpAny_Slice (thn (hl pins s1 σ H1 _ I1 q1) fun vl s2 ⟨l,H2,I2,pl,q2⟩=>thn (hu pins s2 σ H2 _ I2 q2) fun vu s3 zq=>?_)
  obtain ⟨u,H3,I3,pu,q3⟩:=zq
  rw [evalPart_none]
  refine wpAny_pure ?_
  have I4:Inv X pins σ H3 { s3 with heap:=s3.heap.push { cls:=.type "slice",data:=.fields #[vl,vu,.none] } }:=I3.kept (t':=s3.toks) fun b ob q=>Heap.get?_push_of_some _ q
  obtain ⟨T,id,hT,ht,hg⟩:=hr pins { s3 with heap:=s3.heap.push { cls:=.type "slice",data:=.fields #[vl,vu,.none] } } σ H3 x v vl vu l u s3.heap.objs.size Q I4 r1 (Heap.IsSliceOf.new ..) pl pu q3
  show wpAny (model X.prog X.w) X.A (subscriptTail e (.Slice lo hi none p2) v (.ref s3.heap.objs.size)) (EP X pins σ Q) X.xe { s3 with heap:=s3.heap.push { cls:=.type "slice",data:=.fields #[vl,vu,.none] } }
  exact tail_any (ops:=[.ref s3.heap.objs.size,v]) ht hT hg (by with_unfolding_all rfl)
noncomputable def cutV (xs:List V)(lo hi:Option Int):List V:=(xs.drop (HT.sIx xs.length 0 lo)).take (HT.sIx xs.length xs.length hi - HT.sIx xs.length 0 lo)
theorem cutV_length (xs:List V)(lo hi:Option Int):(cutV xs lo hi).length≤xs.length:=by
  unfold cutV
  rw [List.length_take,List.length_drop]
  lia
noncomputable def rSlT (K:PySem.W.Frag):V→Option Int→Option Int→Hp→VK→Prop:=fun x lo hi H Q=>∃ a xs,x=.ref a∧SqT K H a xs∧
  ¬ (HT.sIx xs.length 0 lo=0∧HT.sIx xs.length xs.length hi=xs.length)∧∀ p,H p=none→Q (.ref p) (upd H p (.tup (cutV xs lo hi)))
theorem sl_tup:SlR X (rSlT X.K):=by
  intro pins s σ H x v vl vu lo hi sl Q I rx hs pl pu h
  obtain ⟨a,xs,rfl,hx,hw,q⟩:=h
  cases rx
  obtain ⟨its,r,ht,hz⟩:=I.tuple hx
  have hlen:its.toArray.size=xs.length:=by rw [List.size_toArray]; exact r.length.symm
  refine ⟨"tuple",_,PyProof.Rows.slot_tuple_getitem.lookup,ht.typeIs,?_⟩
  refine HT.getItem_tuple_cut ht hs pl pu (by rw [hlen]; exact hw) ?_ (by rw [hlen]; exact hz)
  rw [hlen]
  refine ⟨.ref s.heap.objs.size,_,I.laid (t':=s.toks) (o:=.tup (cutV xs lo hi)) (fun b ob q=>Heap.get?_push_of_some _ q) (Nat.le_refl _) ?_,rfl,q _ (I.hok.fresh (Nat.le_refl _))⟩
  exact ⟨Nat.le_trans (cutV_length xs lo hi) hz,_,(r.drop (HT.sIx xs.length 0 lo)).take (HT.sIx xs.length xs.length hi - HT.sIx xs.length 0 lo),IsTup.new _ _⟩
inductive rCatT (K:PySem.W.Frag)(x:V)(y:V)(H:Hp)(Q:VK):Prop
  | mk:∀ a b xs ys,(x=.ref a)→(y=.ref b)→(SqT K H a xs)→(SqT K H b ys)→(xs≠[])→(xs.length+ys.length≤sizeLine)→((ys=[]→Q (.ref a) H))→((ys≠[]→∀ p,H p=none→Q (.ref p) (upd H p (.tup (xs++ys)))))→rCatT K x y H Q
theorem Vals.nil_iff {xs:List V}{us:List Value}(r:Vals xs us):us=[]↔xs=[]:=by
  cases r with
  | nil=>simp
  | cons _ _=>simp
theorem op_catT:OpR X (binaryOp .Add) (rCatT X.K):=by
  intro pins s σ H x y v u Q I rx ry h
  obtain ⟨a,b,xs,ys,rfl,rfl,ha,hb,hx,hz,q1,q2⟩:=h
  cases rx
  cases ry
  obtain ⟨its,r1,p1,_⟩:=I.tuple ha
  obtain ⟨its2,r2,p2,_⟩:=I.tuple hb
  refine HT.cat_tup p1 p2 (fun z=>hx (r1.nil_iff.mp z)) (fun z=>⟨.ref a,H,I,rfl,q1 (r2.nil_iff.mp z)⟩) (fun z=>?_) (by rw [←r1.length,←r2.length]; exact hz)
  refine ⟨.ref s.heap.objs.size,_,I.laid (t':=s.toks) (o:=.tup (xs++ys)) (fun b ob q=>Heap.get?_push_of_some _ q) (Nat.le_refl _) ?_,rfl,q2 (fun w=>z (r2.nil_iff.mpr w)) _ (I.hok.fresh (Nat.le_refl _))⟩
  exact ⟨by rw [List.length_append]; exact hz,_,r1.append r2,IsTup.new _ _⟩
end
end L2
namespace L2
open PySem PySem.Spec PyProof.Rows
noncomputable def ixN (n:Nat)(i:Int):Option Nat:=if 0≤i then (if i < n then some i.toNat else none) else if -(n:Int)≤i then some (i+n).toNat else none
noncomputable def atI {α:Type}(xs:List α)(i:Int):Option α:=(ixN xs.length i).bind fun j=>xs[j]?
theorem ixN_seq {n:Nat}{i:Int}{j:Nat}(h:ixN n i=some j):seqIndex? i n=some j∧j < n∧-(n:Int)≤i∧i < n:=by
  unfold ixN at h
  by_cases h0:0≤i
  · rw [if_pos h0] at h
    by_cases h1:i < n
    · rw [if_pos h1] at h
      have e:i.toNat=j:=Option.some.inj h
      exact ⟨by rw [seqIndex_of h0 h1,e],by lia,by lia,h1⟩
    · rw [if_neg h1] at h; cases h
  · rw [if_neg h0] at h
    by_cases h1:-(n:Int)≤i
    · rw [if_pos h1] at h
      have e:(i+n).toNat=j:=Option.some.inj h
      exact ⟨by rw [seqIndex_neg (by lia) h1,e],by lia,h1,by lia⟩
    · rw [if_neg h1] at h; cases h
theorem atI_get {α:Type}{xs:List α}{i:Int}{v:α}(h:atI xs i=some v):∃ j,seqIndex? i xs.length=some j∧xs[j]?=some v∧j < xs.length∧-(xs.length:Int)≤i∧i < xs.length:=by
  unfold atI at h
  cases e:ixN xs.length i with
  | none=>rw [e] at h; cases h
  | some j=>
    rw [e] at h
    obtain ⟨h1,h2,h3,h4⟩:=ixN_seq e
    exact ⟨j,h1,h,h2,h3,h4⟩
theorem atI_nat {α:Type}{xs:List α}{j:Nat}{v:α}(h:xs[j]?=some v):atI xs (j:Int)=some v:=by
  have hj:j < xs.length:=(List.getElem?_eq_some_iff.mp h).1
  have e:ixN xs.length (j:Int)=some j:=by
    unfold ixN
    rw [if_pos (by lia),if_pos (by lia)]; simp
  unfold atI; rw [e]; exact h
noncomputable def PlainIx (b:Expr):Prop:=∀ o i,subscripted b false o i=operate [o,i] (getItem o i)
noncomputable def IxR (X:Cx)(r:R2):Prop:=
  ∀ (value slice:Expr) (pins:List (Addr×Obj)) (s:Shared) (σ:St) (H:Hp) (x y:V) (v u:Value) (Q:VK),Inv X pins σ H s→RelV x v→RelV y u→r x y H Q→
    subscripted slice false v u=operate [v,u] (getItem v u)→wpAny (model X.prog X.w) X.A (subscriptTail value slice v u) (EP X pins σ Q) X.xe s
noncomputable def MtR (X:Cx)(id:String)(r:V→List V→Hp→VK→Prop):Prop:=
  ∀ (pins:List (Addr×Obj)) (s:Shared) (σ:St) (H:Hp) (x:V) (xs:List V) (v:Value) (us:List Value) (Q:VK),Inv X pins σ H s→RelV x v→Vals xs us→r x xs H Q→
    wpAny (model X.prog X.w) X.A (call (.builtin id) (v::us)) (EP X pins σ Q) X.xe s
section
variable {X:Cx}{a b:Expr}{ta tb:TE}{pos:Pos}
theorem IxR.or {r r':R2}(h:IxR X r)(h':IxR X r'):IxR X (fun x y H Q=>r x y H Q∨r' x y H Q):=by
  intro value slice pins s σ H x y v u Q I rx ry q hs
  rcases q with q | q
  · exact h value slice pins s σ H x y v u Q I rx ry q hs
  · exact h' value slice pins s σ H x y v u Q I rx ry q hs
theorem pe_ix {r:R2}(hr:IxR X r)(ha:PE X a ta)(hb:PE X b tb)(hs:PlainIx b):PE X (.Subscript a b pos) (tOp r ta tb):=by
  intro pins s σ H Q I h
  exact Subscript_ (binT ha hb I h fun v u s2 x y H2 I2 rx ry q=>hr a b pins s2 σ H2 x y v u Q I2 rx ry q (hs _ _))
inductive rIxL (K:PySem.W.Frag)(x:V)(y:V)(H:Hp)(Q:VK):Prop
  | mk:∀ p xs i v,(x=.ref p)→(y=.int i)→(SqL K H p xs)→(atI xs i=some v)→(Q v H)→rIxL K x y H Q
inductive rIxT (K:PySem.W.Frag)(x:V)(y:V)(H:Hp)(Q:VK):Prop
  | mk:∀ p xs i v,(x=.ref p)→(y=.int i)→(SqT K H p xs)→(atI xs i=some v)→(Q v H)→rIxT K x y H Q
inductive rIxS  (x:V) (y:V) (H:Hp) (Q:VK):Prop
  | mk:∀ z i c,(x=.str z)→(y=.int i)→(z.length≤sizeLine)→(atI z.cps.toList i=some c)→(Q (.str ⟨#[c]⟩) H)→rIxS x y H Q
theorem ix_list:IxR X (rIxL X.K):=by
  intro value slice pins s σ H x y v u Q I rx ry h hs
  obtain ⟨p,xs,i,z,rfl,rfl,hq,he,q⟩:=h
  cases rx
  obtain ⟨t,rfl⟩:=ry
  obtain ⟨its,r,pl,hz⟩:=I.list hq
  obtain ⟨j,h1,h2,h3,h4,h5⟩:=atI_get he
  obtain ⟨w,ew,rw'⟩:=r.get h2
  have hl:=r.length
  have hn:=line63
  have fin:EP X pins σ Q w s:=⟨z,H,I,rw',q⟩
  by_cases h0:0≤i
  · have hj:i.toNat=j:=by
      rw [seqIndex_of h0 h5] at h1
      exact Option.some.inj h1
    exact item_listR pl.isList h0 (by lia) (by rw [hj]; simpa using ew) fin hs
  · have hj:(i+(its.toArray.size:Int)).toNat=j:=by
      rw [seqIndex_neg (by lia) h4] at h1
      rw [List.size_toArray,←hl]
      exact Option.some.inj h1
    exact subscriptTail_builtinR (x:=w) pl.isList.typeIs slot_list_getitem.lookup
      (wpAny_getItem_list_neg (Q:=fun r s'=>r=w∧EP X pins σ Q r s') pl.isList (by lia) (by rw [List.size_toArray]<;>lia) (by lia) (by rw [hj]; simpa using ew) ⟨rfl,fin⟩) hs
theorem ix_tup:IxR X (rIxT X.K):=by
  intro value slice pins s σ H x y v u Q I rx ry h hs
  obtain ⟨p,xs,i,z,rfl,rfl,hq,he,q⟩:=h
  cases rx
  obtain ⟨t,rfl⟩:=ry
  obtain ⟨its,r,pl,hz⟩:=I.tuple hq
  obtain ⟨j,h1,h2,h3,h4,h5⟩:=atI_get he
  obtain ⟨w,ew,rw'⟩:=r.get h2
  have hl:=r.length
  have hn:=line63
  have fin:EP X pins σ Q w s:=⟨z,H,I,rw',q⟩
  exact subscriptTail_builtinR (x:=w) pl.typeIs slot_tuple_getitem.lookup
    (getItem_tuple (j:=j) (Q:=fun r s'=>r=w∧EP X pins σ Q r s') pl (by lia) (by lia) (by rw [List.size_toArray,←hl]; exact h1) (by simpa using ew) ⟨rfl,fin⟩) hs
theorem ix_str:IxR X rIxS:=by
  intro value slice pins s σ H x y v u Q I rx ry h hs
  obtain ⟨z,i,c,rfl,rfl,hz,he,q⟩:=h
  obtain ⟨t,rfl⟩:=rx
  obtain ⟨t',rfl⟩:=ry
  obtain ⟨j,h1,h2,h3,h4,h5⟩:=atI_get he
  have hl:z.cps.toList.length=z.length:=by simp [Str.length]
  rw [hl] at h1 h4 h5
  have hn:=line63
  exact tail_any (typeIs_str s z t) slot_str_getitem.lookup (getItem_str (c:=c) (by
    have e1:decide (i < -(2 ^ 63:Int))=false:=decide_eq_false (by lia)
    have e2:decide (i ≥ 2 ^ 63)=false:=decide_eq_false (by lia)
    rw [e1,e2,Bool.or_false]) (by rw [h1]; simpa using h2) ⟨.str ⟨#[c]⟩,H,I.tok _,⟨_,rfl⟩,q⟩) hs
noncomputable def rIx (K:PySem.W.Frag):R2:=fun x y H Q=>rIxL K x y H Q∨rIxT K x y H Q∨rIxS x y H Q
theorem ix_seq:IxR X (rIx X.K):=ix_list.or (ix_tup.or ix_str)
theorem mapSeq_set (its:List Value)(n j:Nat)(u:Value):Obj.mapSeq (·.setIfInBounds j u) { cls:=.type "list",data:=.seq its.toArray n }={ cls:=.type "list",data:=.seq (its.set j u).toArray n }:=by
  simp [Obj.mapSeq]
theorem Inv.lst {pins:List (Addr×Obj)}{σ:St}{H:Hp}{s:Shared}{p:Addr}{xs:List V}(I:Inv X pins σ H s)(h:H p=some (.lst xs)):
    ∃ (its:List Value) (n:Nat),Vals xs its∧s.heap.get? p=some { cls:=.type "list",data:=.seq its.toArray n }∧xs.length≤sizeLine:=by
  obtain ⟨z,its,n,r,e⟩:=I.hok p _ h
  exact ⟨its,n,r,e,z⟩
theorem Inv.lstUpd {pins:List (Addr×Obj)}{σ:St}{H:Hp}{s:Shared}{p:Addr}{xs ys:List V}{its its':List Value}{n n':Nat}{f:Obj→Obj}(I:Inv X pins σ H s)(h:H p=some (.lst xs))
    (ho:s.heap.get? p=some { cls:=.type "list",data:=.seq its.toArray n }) (hf:f { cls:=.type "list",data:=.seq its.toArray n }={ cls:=.type "list",data:=.seq its'.toArray n' }) (r:Vals ys its') (hz:ys.length≤sizeLine) (t:Nat):
    Inv X pins σ (upd H p (.lst ys)) { s with heap:=s.heap.update p f,toks:=t }:=by
  have e:(s.heap.update p f).get? p=some { cls:=.type "list",data:=.seq its'.toArray n' }:=by
    rw [Heap.get?_update_self f ho (by rw [hf]<;>rfl),hf]
  refine I.write (x:=p) (e:=p) (by rw [h]; trivial) (.inl rfl) (fun b u hb q=>(Heap.get?_update_other _ _ (Ne.symm hb)).trans q) ⟨_,e⟩ ?_
  exact ⟨hz,its',n',r,e⟩
inductive rSetL  (o:V) (i:V) (v:V) (H:Hp) (Q:(Hp→Prop)):Prop
  | mk:∀ p xs k j,(o=.ref p)→(i=.int k)→(H p=some (.lst xs))→(ixN xs.length k=some j)→(Q (upd H p (.lst (xs.set j v))))→rSetL o i v H Q
theorem set_list:PSet X rSetL:=by
  intro pins s σ H o i v ov iv u Q I ro ri rv h
  obtain ⟨p,xs,k,j,rfl,rfl,hp,hj,q⟩:=h
  cases ro
  obtain ⟨t,rfl⟩:=ri
  obtain ⟨its,n,r,ho,hz⟩:=I.lst hp
  obtain ⟨h1,h2,h3,h4⟩:=ixN_seq hj
  have hl:=r.length
  have hn:=line63
  have I':Inv X pins σ (upd H p (.lst (xs.set j v))) { s with heap:=s.heap.update p (Obj.mapSeq (·.setIfInBounds j u)) }:=
    I.lstUpd hp ho (mapSeq_set its n j u) (r.set rv j) (by rw [List.length_set]; exact hz) s.toks
  by_cases h0:0≤k
  · have hk:k.toNat=j:=by
      rw [seqIndex_of h0 h4] at h1
      exact Option.some.inj h1
    exact PySem.W.ki_setAt ho h0 (by lia) (by rw [List.size_toArray,←hl]; exact h4) (by rw [hk]; exact ⟨_,I',q⟩)
  · have hk:(k+(its.toArray.size:Int)).toNat=j:=by
      rw [seqIndex_neg (by lia) h3] at h1
      rw [List.size_toArray,←hl]
      exact Option.some.inj h1
    exact PySem.W.ki_setBack ho (by lia) (by rw [List.size_toArray,←hl]; exact h3) (by lia) (by rw [hk]; exact ⟨_,I',q⟩)
theorem slice_bounds (lo hi:Option Int)(n:Nat):(sliceBounds lo hi none n).1=((HT.sIx n 0 lo:Nat):Int)∧(sliceBounds lo hi none n).2.1=((HT.sIx n n hi:Nat):Int)∧(sliceBounds lo hi none n).2.2=1:=by
  refine ⟨?_,?_,rfl⟩
  · cases lo with
    | none=>simp [sliceBounds,HT.sIx]
    | some i=>
      simp only [sliceBounds,HT.sIx,Option.getD_none,show (1:Int) > 0 by decide,if_true]
      by_cases h:i < 0
      · simp only [h,if_true]<;>lia
      · simp only [h,if_false]<;>lia
  · cases hi with
    | none=>simp [sliceBounds,HT.sIx]
    | some i=>
      simp only [sliceBounds,HT.sIx,Option.getD_none,show (1:Int) > 0 by decide,if_true]
      by_cases h:i < 0
      · simp only [h,if_true]<;>lia
      · simp only [h,if_false]<;>lia
theorem slicePick_cut (its:List Value)(lo hi:Option Int):slicePick its.toArray lo hi none=((its.drop (HT.sIx its.length 0 lo)).take (HT.sIx its.length its.length hi - HT.sIx its.length 0 lo)).toArray:=by
  obtain ⟨h1,h2,h3⟩:=slice_bounds lo hi its.toArray.size
  unfold slicePick
  rw [h1,h2,h3]
  simp only [sliceRange_one,pick_run,List.size_toArray]<;>rfl
inductive rSlL (K:PySem.W.Frag)(x:V)(lo:Option Int)(hi:Option Int)(H:Hp)(Q:VK):Prop
  | mk:∀ a xs,(x=.ref a)→(SqL K H a xs)→(∀ p,H p=none→Q (.ref p) (upd H p (.lst (cutV xs lo hi))))→rSlL K x lo hi H Q
theorem sl_list:SlR X (rSlL X.K):=by
  intro pins s σ H x v vl vu lo hi sl Q I rx hs pl pu h
  obtain ⟨a,xs,rfl,hx,q⟩:=h
  cases rx
  obtain ⟨its,r,ht,hz⟩:=I.list hx
  have hlen:=r.length
  refine ⟨"list",_,slot_list_getitem.lookup,ht.isList.typeIs,?_⟩
  refine wpAny_getItem_list_slice ht.isList hs pl pu .none (by simp) ?_ (by rw [List.size_toArray]<;>lia)
  rw [slicePick_cut,←hlen]
  refine ⟨.ref s.heap.objs.size,_,I.laid (t':=s.toks) (o:=.lst (cutV xs lo hi)) (fun b ob q=>Heap.get?_push_of_some _ q) (Nat.le_refl _) ?_,rfl,q _ (I.hok.fresh (Nat.le_refl _))⟩
  exact ⟨Nat.le_trans (cutV_length xs lo hi) hz,_,0,(r.drop (HT.sIx xs.length 0 lo)).take (HT.sIx xs.length xs.length hi - HT.sIx xs.length 0 lo),Heap.get?_push_size _ rfl⟩
theorem call_len_seq:CallR X (.builtin "len") (fun xs H Q=>∃ p ys,xs=[.ref p]∧(SqL X.K H p ys∨SqT X.K H p ys)∧Q (.int ys.length) H):=by
  intro pins s σ H xs us Q I r h
  obtain ⟨p,ys,rfl,hq,q⟩:=h
  obtain ⟨u,rfl,rx⟩:=vals1 r
  cases rx
  have hn:=line63
  rcases hq with hq | hq
  · obtain ⟨its,r',pl,hz⟩:=I.list hq
    have hlen:=r'.length
    exact Calls.call_len_list pl.isList (by simp only [List.size_toArray]<;>lia) ⟨.int ys.length,H,I.tok _,⟨s.toks+1,by rw [List.size_toArray,hlen]⟩,q⟩
  · obtain ⟨its,r',pl,hz⟩:=I.tuple hq
    have hlen:=r'.length
    exact len_tuple pl (by simp only [List.size_toArray]<;>lia) ⟨.int ys.length,H,I.tok _,⟨s.toks+1,by rw [List.size_toArray,hlen]⟩,q⟩
theorem CallR.or {f:Value}{r r':List V→Hp→VK→Prop}(h:CallR X f r)(h':CallR X f r'):CallR X f (fun xs H Q=>r xs H Q∨r' xs H Q):=by
  intro pins s σ H xs us Q I rs q
  rcases q with q | q
  · exact h pins s σ H xs us Q I rs q
  · exact h' pins s σ H xs us Q I rs q
theorem call_list_of:CallR X (.type "list") (fun xs H Q=>∃ p ys,xs=[.ref p]∧(SqL X.K H p ys∨SqT X.K H p ys)∧∀ l,H l=none→Q (.ref l) (upd H l (.lst ys))):=by
  intro pins s σ H xs us Q I r h
  obtain ⟨p,ys,rfl,hq,q⟩:=h
  obtain ⟨u,rfl,rx⟩:=vals1 r
  cases rx
  have fin:∀ (its:List Value),Vals ys its→ys.length≤sizeLine→∀ (h':Heap) (c':Nat),(∀ b o',s.heap.get? b=some o'→h'.get? b=some o')→
      h'.get? s.heap.objs.size=some { cls:=.type "list",dict:=none,data:=.seq its.toArray c',slots:=#[] }→EP X pins σ Q (.ref s.heap.objs.size) { s with heap:=h' }:=fun its r' hz h' c' kp e=>
    ⟨.ref s.heap.objs.size,_,I.laid (t':=s.toks) kp (Nat.le_refl _) (show ObjOk X.prog X.w _ h' _ (.lst ys) from ⟨hz,its,c',r',e⟩),rfl,q _ (I.hok.fresh (Nat.le_refl _))⟩
  rcases hq with hq | hq
  · obtain ⟨its,r',pl,hz⟩:=I.list hq
    have hlen:=r'.length
    obtain ⟨o,ho,hc,n,hd⟩:=pl.isList
    exact call_list_seq p (.inl rfl) ho hc hd (fun h' c' kp e=>fin its r' hz h' c' kp e) (by simp only [List.size_toArray]<;>lia)
  · obtain ⟨its,r',pl,hz⟩:=I.tuple hq
    have hlen:=r'.length
    obtain ⟨o,ho,hc,n,hd⟩:=pl
    exact call_list_seq p (.inr rfl) ho hc hd (fun h' c' kp e=>fin its r' hz h' c' kp e) (by simp only [List.size_toArray]<;>lia)
theorem call_tuple_of:CallR X (.type "tuple") (fun xs H Q=>∃ p ys,xs=[.ref p]∧((SqL X.K H p ys∧∀ l,H l=none→Q (.ref l) (upd H l (.tup ys)))∨(SqT X.K H p ys∧Q (.ref p) H))):=by
  intro pins s σ H xs us Q I r h
  obtain ⟨p,ys,rfl,h⟩:=h
  obtain ⟨u,rfl,rx⟩:=vals1 r
  cases rx
  rcases h with ⟨hq,q⟩ | ⟨hq,q⟩
  · obtain ⟨its,r',pl,hz⟩:=I.list hq
    have hlen:=r'.length
    refine call_tuple_list pl.isList (fun h' kp=>?_) (by simp only [List.size_toArray]<;>lia)
    have I1:Inv X pins σ H { s with heap:=h' }:=I.kept (t':=s.toks) kp
    have I2:Inv X pins σ (upd H h'.objs.size (.tup ys)) { s with heap:=h'.push { cls:=.type "tuple",data:=.seq its.toArray } }:=
      I1.laid (t':=s.toks) (fun b o e=>Heap.get?_push_of_some _ e) (Nat.le_refl _) (show ObjOk X.prog X.w _ _ _ (.tup ys) from ⟨hz,its,r',IsTup.new _ _⟩)
    exact ⟨.ref h'.objs.size,_,I2,rfl,q _ (I1.hok.fresh (Nat.le_refl _))⟩
  · obtain ⟨its,r',pl,hz⟩:=I.tuple hq
    exact call_tuple_same pl ⟨.ref p,H,I,rfl,q⟩
noncomputable def tyV (K:PySem.W.Frag)(T:String)(x:V)(H:Hp):Prop:=match x with
  | .str _=>T = "str"
  | .int _=>T = "int"
  | .ref p=>(T = "list" ∧ ∃ xs,SqL K H p xs)∨(T = "tuple" ∧ ∃ o,K.lookup p=some o∧o.cls=.type "tuple" ∧ o.dict=none)∨
      (T = "dict" ∧ ((∃ kvs,H p=some (.dK kvs))∨∃ kvs,H p=some (.dT kvs)))∨(T = "set" ∧ ∃ S n,H p=some (.set S n))
  | _=>False
theorem tyV_is {pins:List (Addr×Obj)}{σ:St}{H:Hp}{s:Shared}{T:String}{x:V}{v:Value}(I:Inv X pins σ H s)(r:RelV x v)(ty:tyV X.K T x H):
    s.TypeIs v T∧∀ a,v=.ref a→∃ ob,s.heap.get? a=some ob∧ob.dict=none:=by
  cases x with
  | str z=>
    obtain ⟨t,rfl⟩:=r
    cases (show T = "str" from ty)
    exact ⟨typeIs_str s z t,fun _ e=>nomatch e⟩
  | int i=>
    obtain ⟨t,rfl⟩:=r
    cases (show T = "int" from ty)
    exact ⟨typeIs_int s i t,fun _ e=>nomatch e⟩
  | ref p=>
    cases r
    rcases ty with ⟨rfl,xs,hq⟩ | ⟨rfl,o,hk,hc,hd⟩ | ⟨rfl,hk⟩ | ⟨rfl,S,n,hk⟩
    · obtain ⟨its,_,pl,_⟩:=I.list hq
      refine ⟨pl.isList.typeIs,fun a e=>?_⟩
      cases e
      obtain ⟨o,n,e,c,hd,_⟩:=pl
      exact ⟨o,e,hd⟩
    · refine ⟨⟨o,I.kIn p o hk,hc⟩,fun a e=>?_⟩
      cases e
      exact ⟨o,I.kIn _ o hk,hd⟩
    · have z:∃ o,s.heap.get? p=some o∧o.ExactDict:=by
        rcases hk with ⟨kvs,hk⟩ | ⟨kvs,hk⟩
        · obtain ⟨_,_,_,_,o,_,_,e,ex,_⟩:=I.hok p _ hk
          exact ⟨o,e,ex⟩
        · obtain ⟨_,_,_,_,o,_,_,e,ex,_⟩:=I.hok p _ hk
          exact ⟨o,e,ex⟩
      obtain ⟨o,e,ex⟩:=z
      refine ⟨⟨o,e,ex.1⟩,fun a e2=>?_⟩
      cases e2
      exact ⟨o,e,ex.2.1⟩
    · obtain ⟨o,_,_,_,e,ex,_⟩:=I.hok p _ hk
      refine ⟨⟨o,e,ex.1⟩,fun a e2=>?_⟩
      cases e2
      exact ⟨o,e,ex.2.1⟩
  | _=>exact False.elim ty
noncomputable def tBM0 (K:PySem.W.Frag)(T:String)(r:V→List V→Hp→VK→Prop)(to:TE):TE:=fun σ H Q=>to σ H fun x H1=>tyV K T x H1∧r x [] H1 Q
noncomputable def tBM (K:PySem.W.Frag)(T:String)(r:V→List V→Hp→VK→Prop)(to:TE)(t:TA):TE:=fun σ H Q=>to σ H fun x H1=>tyV K T x H1∧t σ H1 fun xs H2=>r x xs H2 Q
variable {o e:Expr}{es:List Expr}{to:TE}{t:TA}{name:Str}{apos cpos:Pos}{T id:String}{r:V→List V→Hp→VK→Prop}
theorem pe_bm0 (pa:PlainAttrs T)(slot:Slot T name id)(hty:typeOf (.builtin id)=pure (.type "method_descriptor"))(hm:MtR X id r)(ho:PE X o to)
    (hbase:attributeBase o name X.env (eval o X.env)=eval o X.env:=by rfl) (hline:(apos.endLine == cpos.line)=true:=by rfl):PE X (.Call (.Attribute o name apos) [] [] cpos) (tBM0 X.K T r to):=by
  intro pins s σ H Q I h
  refine wpAny_Call_method0_late hbase hline (thn (ho pins s σ H _ I h) fun v s1 zq=>?_)
  obtain ⟨x,H1,I1,r1,ty,q1⟩:=zq
  obtain ⟨h1,h2⟩:=tyV_is I1 r1 ty
  exact ⟨T,id,pa,slot,hty,h1,h2,Calls.callWith_builtin rfl (PySem.evalArgs_none (hm pins s1 σ H1 x [] v [] Q I1 r1 .nil q1))⟩
theorem pe_bm (pa:PlainAttrs T)(slot:Slot T name id)(hty:typeOf (.builtin id)=pure (.type "method_descriptor"))(hm:MtR X id r)(ho:PE X o to)(ha:PA X (e::es) t)
    (hbase:attributeBase o name X.env (eval o X.env)=eval o X.env:=by rfl)
    (hfew:((backTo cpos (starEach (e::es) X.env)).all (fun x=>!x.1) && (backToKw cpos (keywordEach [] X.env)).all (fun x=>x.1.isSome)
      && decide ((e::es).length+([]:List Keyword).length+(if ([]:List Keyword).isEmpty then 0 else 1) < 30))=true:=by rfl)
    (hline:(apos.endLine == cpos.line)=true:=by rfl) (hs:starEach (e::es) X.env=(false,eval e X.env)::starEach es X.env:=by rfl) (hplain:(backTo cpos (starEach es X.env)).any (·.1)=false:=by rfl):
    PE X (.Call (.Attribute o name apos) (e::es) [] cpos) (tBM X.K T r to t):=by
  intro pins s σ H Q I h
  refine wpAny_Call_method_late hbase hfew hline rfl (thn (ho pins s σ H _ I h) fun v s1 zq=>?_)
  obtain ⟨x,H1,I1,r1,ty,q1⟩:=zq
  obtain ⟨h1,h2⟩:=tyV_is I1 r1 ty
  refine ⟨T,id,pa,slot,hty,h1,h2,?_⟩
  have hA:=ha cpos pins s1 σ H1 _ I1 q1
  rw [hs] at hA ⊢
  refine Calls.callWith_builtin (by show (false || (backTo cpos (starEach es X.env)).any (·.1))=false; rw [hplain]<;>rfl) (Calls.evalArgs_plain ?_)
  exact thn hA fun us s2 ⟨vs,H2,I2,r2,q2⟩=>hm pins s2 σ H2 x vs v us Q I2 r1 r2 q2
end
end L2
namespace L2
open PySem PySem.Spec PyProof.Rows
noncomputable def MtM (X:Cx)(id:String)(r:V→List V→Hp→VK→Prop):Prop:=
  ∀ (pins:List (Addr×Obj)) (s:Shared) (σ:St) (H:Hp) (x:V) (xs:List V) (v:Value) (us:List Value) (Q:VK),Inv X pins σ H s→RelV x v→Vals xs us→r x xs H Q→
    wpAny (model X.prog X.w) X.A (call (.builtin id) (v::us)) (EP X pins σ Q) X.xe s
theorem Vals.one:∀ {x:V} {us:List Value},Vals [x] us→∃ u,us=[u]∧RelV x u
  | _,_,.cons r .nil=>⟨_,rfl,r⟩
theorem Vals.zero:∀ {us:List Value},Vals [] us→us=[]
  | _,.nil=>rfl
theorem Vals.eraseIdx:∀ {xs:List V} {us:List Value} (i:Nat),Vals xs us→Vals (xs.eraseIdx i) (us.eraseIdx i)
  | _,_,_,.nil=>.nil
  | _,_,0,.cons _ t=>t
  | _,_,i+1,.cons r t=>.cons r (Vals.eraseIdx i t)
theorem Vals.reverse {xs:List V}{us:List Value}(h:Vals xs us):Vals xs.reverse us.reverse:=by
  induction h with
  | nil=>exact .nil
  | cons r t ih=>rw [List.reverse_cons,List.reverse_cons]; exact Vals.append ih (.cons r .nil)
theorem len_erase {α:Type}:∀ (l:List α) (i:Nat),(l.eraseIdx i).length≤l.length
  | [],_=>Nat.le_refl _
  | _::_,0=>Nat.le_succ _
  | _::r,i+1=>Nat.succ_le_succ (len_erase r i)
section
variable {X:Cx}{pins:List (Addr×Obj)}{σ:St}{H:Hp}{s:Shared}{l b:Addr}{xs ys zs:List V}
theorem Inv.lset {its its':List Value}{n:Nat}{f:Array Value→Array Value}{t':Nat}(I:Inv X pins σ H s)(hH:H l=some (.lst xs))
    (e:s.heap.get? l=some { cls:=.type "list",data:=.seq its.toArray n }) (hf:f its.toArray=its'.toArray) (hv:Vals ys its') (hz:ys.length≤sizeLine):
    Inv X pins σ (upd H l (.lst ys)) { s with heap:=s.heap.update l (Obj.mapSeq f),toks:=t' }:=by
  have q:=PySem.IsL.update e f
  rw [hf] at q
  refine I.write (x:=l) (e:=l) (by rw [hH]; exact trivial) (.inl rfl) (fun b' u hb hu=>(Heap.get?_update_other s.heap (Obj.mapSeq f) (Ne.symm hb)).trans hu) ⟨_,q⟩ ?_
  exact ⟨hz,its',_,hv,q⟩
theorem Inv.lstM (I:Inv X pins σ H s)(hH:H l=some (.lst xs)):xs.length≤sizeLine∧∃ (its:List Value) (n:Nat),Vals xs its∧xs.length=its.length∧s.heap.get? l=some { cls:=.type "list",data:=.seq its.toArray n }:=by
  obtain ⟨z,its,n,r,e⟩:=I.hok l _ hH
  exact ⟨z,its,n,r,r.length,e⟩
theorem notLongL {n:Nat}(h:n≤sizeLine):Builtin.List.listTooLong n=false:=by
  unfold Builtin.List.listTooLong
  exact decide_eq_false (by lia)
end
section
variable {X:Cx}
inductive rAppend  (x:V) (vs:List V) (H:Hp) (Q:VK):Prop
  | mk:∀ l xs y,(x=.ref l)→(vs=[y])→(H l=some (.lst xs))→(xs.length < sizeLine)→(Q .non (upd H l (.lst (xs++[y]))))→rAppend x vs H Q
theorem mt_append:MtM X "list.append" rAppend:=by
  intro pins s σ H x vs v us Q I rx rv h
  obtain ⟨l,xs,y,rfl,rfl,hH,hz,q⟩:=h
  cases rx
  obtain ⟨u,rfl,ru⟩:=rv.one
  obtain ⟨z,its,n,r,hl,e⟩:=I.lstM hH
  refine call_meets F.slot_list_append ⟨_,e,rfl⟩ F.entry_list_append (F.args_list_append_2 _ _) (PySem.list_append l its.toArray n u (by rw [List.size_toArray]; lia)) ⟨e,?_⟩
  refine ⟨.non,_,I.lset (its':=its++[u]) hH e (by simp) (r.append (.cons ru .nil)) ?_,rfl,q⟩
  rw [List.length_append,List.length_singleton]
  lia
inductive rPopAt  (x:V) (vs:List V) (H:Hp) (Q:VK):Prop
  | mk:∀ l xs i k y,(x=.ref l)→(vs=[.int i])→(H l=some (.lst xs))→(-(2 ^ 63)≤i)→(i < 2 ^ 63)→(seqIndex? i xs.length=some k)→(xs[k]?=some y)→(Q y (upd H l (.lst (xs.eraseIdx k))))→rPopAt x vs H Q
theorem mt_popAt:MtM X "list.pop" rPopAt:=by
  intro pins s σ H x vs v us Q I rx rv h
  obtain ⟨l,xs,i,k,y,rfl,rfl,hH,h1,h2,hk,hy,q⟩:=h
  cases rx
  obtain ⟨u,rfl,ru⟩:=rv.one
  obtain ⟨t,rfl⟩:=ru
  obtain ⟨z,its,n,r,hl,e⟩:=I.lstM hH
  obtain ⟨w,hw,rw'⟩:=r.get hy
  refine call_meets F.slot_list_pop ⟨_,e,rfl⟩ F.entry_list_pop (F.args_list_pop_2 _ _)
    (MeetsSeq.list_pop_at l its.toArray n i t k w (fitsIndex_both h1 h2) (by rw [List.size_toArray,←hl]; exact hk) (by rw [←Array.getElem?_toList]; exact hw) (by rw [List.size_toArray]; lia)) ⟨e,?_⟩
  refine ⟨y,_,I.lset (its':=its.eraseIdx k) hH e ?_ (r.eraseIdx k) ?_,rw',q⟩
  · show its.toArray.eraseIdxIfInBounds k=(its.eraseIdx k).toArray
    rw [List.eraseIdxIfInBounds_toArray]
  · have:=len_erase xs k
    lia
inductive rReverse  (x:V) (vs:List V) (H:Hp) (Q:VK):Prop
  | mk:∀ l xs,(x=.ref l)→(vs=[])→(H l=some (.lst xs))→(Q .non (upd H l (.lst xs.reverse)))→rReverse x vs H Q
theorem mt_reverse:MtM X "list.reverse" rReverse:=by
  intro pins s σ H x vs v us Q I rx rv h
  obtain ⟨l,xs,rfl,rfl,hH,q⟩:=h
  cases rx
  have hus:=rv.zero
  subst hus
  obtain ⟨z,its,n,r,hl,e⟩:=I.lstM hH
  refine call_meets F.slot_list_reverse ⟨_,e,rfl⟩ F.entry_list_reverse (F.args_list_reverse_1 _) (AutoSeq1.list_reverse_list_0 l its.toArray n (by rw [List.size_toArray]; lia)) ⟨e,?_⟩
  refine ⟨.non,_,I.lset (its':=its.reverse) hH e (by simp) r.reverse ?_,rfl,q⟩
  rw [List.length_reverse]
  lia
end
end L2
namespace Att
open PySem PySem.W PySem.Calls PyProof.Rows
theorem ints_of_wellAll {P:Params}{h:Heap}:∀ (ns:List Int) (vs:List Value),WellAll P h vs (ns.map WData.int)→IntsAre vs ns:=by
  intro ns
  induction ns with
  | nil=>
    intro vs w
    rw [List.map_nil] at w
    cases w
    exact .nil
  | cons n ns ih=>
    intro vs w
    rw [List.map_cons] at w
    cases w with
    | cons a b=>
      cases a
      exact .cons _ _ (ih _ b)
theorem script_of {l:OpenLaw}{n:Nat}(hn:l.most=some n){P:Params}{h:Heap}{args:List WData}{vals:List Value}
    (hpre:l.row.toRowW.claim.pre args=true) (hwl:WellAll P h vals args):
    ∃ a vs ns,vals=[Value.ref a]∧args=[WData.list (ns.map WData.int)]∧h.get? a=some { cls:=.type "list",data:=.seq vs.toArray }∧IntsAre vs ns∧ns.length≤n:=by
  have hsh:WShape.hasAll [] args [.list .int]=true:=(pre_splitW hpre).1
  have hc:l.pre.holds [] { args:=args }=true:=(pre_splitW hpre).2
  obtain ⟨d,r,rfl,h1,h2⟩:=hasAllW_cons hsh
  obtain rfl:=hasAllW_nil h2
  obtain ⟨xs,rfl,h3⟩:=hasW_list h1
  obtain ⟨ns,rfl⟩:=items_int h3
  have hlen:ns.length≤n:=by
    unfold OpenLaw.pre at hc
    have h4:(WTm.not (.lt (.lit (.int (n:Int))) (.len (.arg 0)))).holds [] { args:=[.list (ns.map .int)] }=true:=by
      have h4:=(holds_andW hc).1
      rw [hn] at h4
      exact h4
    have h5:=condW_of h4 (w_not (w_lt w_lit (w_len_list (w_arg rfl))))
    rw [List.length_map] at h5
    refine Nat.le_of_not_lt fun q=>?_
    have q':(n:Int) < ((ns.length:Nat):Int):=by lia
    first
      | (rw [decide_eq_true q'] at h5; exact absurd h5 (by decide))
      | (simp at h5; lia)
  cases hwl with
  | cons w1 w2=>
    cases w2
    cases w1 with
    | list ho hall=>exact ⟨_,_,ns,rfl,rfl,ho,ints_of_wellAll ns _ hall,hlen⟩
theorem post_true (l:OpenLaw)(args:List WData):l.row.toRowW.claim.post args (.bool true) args=true:=
  postW_of (r:=l.row.toRowW) (X:=(true == true))
    (show WShape.has [] (.bool true) .bool=true by first | rfl | decide | simp [WShape.has,WShape.arms,WShape.armsAll])
    (show (WTm.eq .res (.lit (.bool true))).value [] { args:=args,res:=some (.bool true),after:=args }=some (.bool (true == true)) from w_eq_bool (w_res rfl) w_lit) rfl
theorem attach_call {l:OpenLaw}{n:Nat}{q:Program}{loose:List Str}{XP:(Str→Option Value)→Heap→Prop}{YP:World→Heap→Prop}{d:DefRec}
    (hn:l.most=some n) (hdf:d.params.defaults=[])
    (call:∀ (w:World) (s₀ s₁:Shared) (mg mb:Str→Option Value) (fa:Addr) (o:Obj) (pm cd doc:Value) (a:Addr) (vs:List Value) (ns:List Int),
      Ground q loose [] XP w s₀ mg mb s₁.heap→YP w s₁.heap→
      s₁.heap.get? fa=some o→o.data=.func (docDef d.name d.params d.body d.scope pm cd doc)→s₁.heap.CodeRec cd d.name→mg d.name=some (.ref fa)→
      s₁.heap.get? a=some { cls:=.type "list",data:=.seq vs.toArray }→IntsAre vs ns→ns.length≤n→s₁.gens=#[]→
      codeAny (model l.prog w) callerA (.call (.ref fa) ⟨[.ref a],[]⟩) (fun r s'=>r=.ok (.ret (.bool true))∧OldK s₁.heap s'.heap∧s'.os=s₁.os∧AllBare s'.gens) s₁):
    WalkO q loose XP YP l.row.toRowW d [] (fun f vs=>PySem.call f vs):=by
  intro w s₀ s₁ mg mb G Y fa o pm cd doc dV kV ho hd hcd hD hmg hg args vals as hpre hlay hrd hwl hlo
  obtain rfl:dV=.none:=Dflts.none hD hdf
  obtain rfl:kV=.none:=Dflts.noKw hD
  obtain ⟨a,vs,ns,rfl,rfl,hobj,hints,hlen⟩:=script_of hn hpre hwl
  refine enter_call (codeAny_mono (call w s₀ s₁ mg mb fa o pm cd doc a vs ns G Y ho (fd_plain hd) hcd hmg hobj hints hlen hg) fun r s' hq=>?_)
  obtain ⟨rfl,h2,h3,h4⟩:=hq
  exact ⟨.inl ⟨.bool true,.bool true,[],rfl,fun _=>rfl,.bool true,post_true l _,fun _=>⟨List.Pairwise.nil,fun _ hm=>(nomatch hm)⟩⟩,h2,h3,h4⟩
end Att
namespace L2
open PySem PySem.Spec PyProof.Rows
theorem vals_ints:∀ {vs:List Value} {ns:List Int},IntsAre vs ns→Vals (ns.map V.int) vs
  | _,_,.nil=>.nil
  | _,_,.cons n t h=>.cons ⟨t,rfl⟩ (vals_ints h)
noncomputable def Only (H:Hp):Prop:=∀ b,H b=none∨∃ o xs,H b=some (.frz o (.lst xs))
theorem law_call {P:Program}{w:World}{K:PySem.W.Frag}{mg mb:Str→Option Value}{CX:CXT}{k:Nat}{fa a:Addr}{fd:FuncData}{x:Str}{sp:Sp}{s₁:Shared}{vs:List Value}{ns:List Int}
    (KX:K.In s₁.heap) (hns:s₁.heap.Ns mainGlobals mg) (hb:s₁.heap.Ns builtinsNs mb) (hbb:∀ x:Str,x ≠ "__name__" → mb x=bootBuiltins x) (hlim:s₁.heap.NoLimit) (hg:s₁.gens=#[])
    (ha:s₁.heap.get? a=some { cls:=.type "list",data:=.seq vs.toArray }) (hi:IntsAre vs ns) (hl:ns.length≤sizeLine) (hr:Room k callerA)
    (F:∀ base:Heap,K.In base→base.Ns mainGlobals mg→FnOk P w K mg base CX k fa fd [x] sp) (hbind:∀ (s:Shared) (u:Value),BindsTo s fd ⟨[u],[]⟩ [(x,u)])
    (hsp:∀ H:Hp,Only H→SqL K H a (ns.map V.int)→sp [.ref a] H (fun v _=>v=.bl true) fun _ _ _=>False)
    (hCX:∀ H e s',CX [] H s₁ (fun _ _ _=>False) e s'→False):
    codeAny (model P w) callerA (.call (.ref fa) ⟨[.ref a],[]⟩) (fun r s'=>r=.ok (.ret (.bool true))∧OldK s₁.heap s'.heap∧s'.os=s₁.os∧AllBare s'.gens) s₁:=by
  have rv:=vals_ints hi
  have lenV:=hi.length
  -- from an abstract heap in which nothing but the script may be tracked
  have core:∀ H:Hp,Only H→SqL K H a (ns.map V.int)→HOk P w H s₁.heap→(∀ b,H b≠none→b=a)→(H a≠none→K.lookup a=none)→
      codeAny (model P w) callerA (.call (.ref fa) ⟨[.ref a],[]⟩) (fun r s'=>r=.ok (.ret (.bool true))∧OldK s₁.heap s'.heap∧s'.os=s₁.os∧AllBare s'.gens) s₁:=by
    intro H hO hS hok hA hK
    have base_of:∀ {b:Addr} {o:Obj},s₁.heap.get? b=some o→H b=none→(hidT s₁.heap H).get? b=some o:=fun e n=>hidT_get e n
    have noA:∀ {b:Addr} {o:Obj} {es:Array DictEntry} {ep:Nat},s₁.heap.get? b=some o→o.data=.dict es ep→H b=none:=fun {b o es ep} e d=>by
      cases q:H b with
      | none=>rfl
      | some u=>
        have e':b=a:=hA b (by rw [q]; simp)
        subst e'
        rw [ha] at e; cases e
        have d':Data.seq vs.toArray _=Data.dict es ep:=d
        cases d'
    have nsK:∀ {b:Addr} {m:Str→Option Value},s₁.heap.Ns b m→(hidT s₁.heap H).Ns b m:=fun {b m} ⟨o,es,ep,e,d,r⟩=>⟨o,es,ep,base_of e (noA e d),d,r⟩
    have hKb:K.In (hidT s₁.heap H):=fun b o e=>base_of (KX b o e) (by
      cases q:H b with
      | none=>rfl
      | some u=>
        have e':b=a:=hA b (by rw [q]; simp)
        subst e'
        rw [hK (by rw [q]; simp)] at e; cases e)
    have hM:Mod K mg (hidT s₁.heap H):=⟨hKb,nsK hns,⟨mb,nsK hb,hbb⟩,let ⟨mc,h1,h2⟩:=hlim; ⟨mc,nsK h1,h2⟩⟩
    have e0:Env0 P w K mg (hidT s₁.heap H) callerA [] s₁ H:=⟨rfl,hM,fun b o e=>of_hidT e,Nat.le_of_eq (hidT_size _ _),trivial,fun b hb=>absurd (show b∈([]:List Addr) from hb) (by simp),hok,.of_eq hg⟩
    refine codeAny_mono ((F _ hKb (nsK hns)).run callerA [] s₁ H ⟨[.ref a],[]⟩ [.ref a] [.ref a] _ _ hr e0 (hbind s₁ (.ref a)) (.cons rfl .nil) (hsp H hO hS)) fun r s' h=>?_
    cases r with
    | error e=>exact (hCX H e s' h).elim
    | ok fl=>
      cases fl with
      | next=>exact False.elim h
      | brk=>exact False.elim h
      | cont=>exact False.elim h
      | ret u=>
        obtain ⟨v,H',os,bare,un,hok',r',q⟩:=h
        have q':v=.bl true:=q
        subst q'
        obtain rfl:u=Value.bool true:=r'
        refine ⟨rfl,OldK.of_keep fun b o e=>?_,os,bare⟩
        cases q:H b with
        | none=>exact un.keep b o e q (by intro z; exact absurd (show b∈([]:List Addr) from z) (by simp)) (by simp)
        | some u=>
          rcases hO b with z | ⟨ob,xs,z⟩
          · rw [q] at z; cases z
          · have z2:=un.frzs b ob _ z
            obtain ⟨e1,_⟩:=hok b _ z
            obtain ⟨e2,_⟩:=hok' b _ z2
            rw [e] at e1; cases e1
            exact e2
  cases hk:K.lookup a with
  | some o=>
    -- the script is one of the module's own objects
    have e:=KX a o hk
    rw [ha] at e
    cases e
    refine core (fun _=>none) (fun _=>.inl rfl) (.inr ⟨_,vs.toArray,_,hk,rfl,rfl,rfl,by rw [List.size_toArray,lenV]; exact hl,by simpa using rv⟩) (fun b u z=>by have z':(none:Option HO)=some u:=z; cases z') (fun b z=>absurd rfl z) fun z=>absurd rfl z
  | none=>
    refine core (fun b=>if b=a then some (.frz { cls:=.type "list",data:=.seq vs.toArray } (.lst (ns.map V.int))) else none) (fun b=>?_) (.inl (.inr ⟨{ cls:=.type "list",data:=.seq vs.toArray },if_pos rfl⟩)) (fun b u z=>?_) (fun b z=>?_) fun _=>hk
    · by_cases hb:b=a
      · exact .inr ⟨_,_,if_pos hb⟩
      · exact .inl (if_neg hb)
    · by_cases hb:b=a
      · have z':=(if_pos hb).symm.trans z
        cases z'
        subst hb
        exact ⟨ha,by rw [List.length_map]; exact hl,vs,_,rv,ha⟩
      · have z':=(if_neg hb).symm.trans z
        cases z'
    · by_cases hb:b=a
      · exact hb
      · exact absurd (if_neg hb) z
end L2
namespace L2
open PySem PySem.Spec PyProof.Rows
theorem walk_of {l:PySem.W.OpenLaw}{n k:Nat}{q:Program}{loose:List Str}{XP:(Str→Option Value)→Heap→Prop}{YP:World→Heap→Prop}{d:DefRec}{K:Params→PySem.W.Frag}{CX:World→CXT}{sp:World→Sp}{x:Str}
    (hn:l.most=some n) (hn2:n≤sizeLine) (hdf:d.params.defaults=[]) (hr:Room k callerA)
    (hY:∀ (w:World) (h:Heap),YP w h→(K w.params).In h)
    (F:∀ (w:World) (mg:Str→Option Value) (fa:Addr) (h:Heap),(K w.params).In h→h.Ns mainGlobals mg→mg d.name=some (.ref fa)→
      ∃ fd:FuncData,(∀ (s:Shared) (u:Value),BindsTo s fd ⟨[u],[]⟩ [(x,u)])∧
        ∀ base:Heap,(K w.params).In base→base.Ns mainGlobals mg→FnOk l.prog w (K w.params) mg base (CX w) k fa fd [x] (sp w))
    (hsp:∀ (w:World) (H:Hp) (a:Addr) (ns:List Int),ns.length≤n→Only H→SqL (K w.params) H a (ns.map V.int)→sp w [.ref a] H (fun v _=>v=.bl true) fun _ _ _=>False)
    (hCX:∀ (w:World) (H:Hp) (s:Shared) (e:Value) (s':Shared),CX w [] H s (fun _ _ _=>False) e s'→False):
    PySem.W.WalkO q loose XP YP l.row.toRowW d [] (fun f vs=>PySem.call f vs):=by
  refine Att.attach_call hn hdf fun w s₀ s₁ mg mb fa o pm cd doc a vs ns G Y ho hd hcd hmg hobj hints hlen hg=>?_
  have KX:=hY w _ Y
  obtain ⟨fd,hb,hF⟩:=F w mg fa _ KX G.T.g hmg
  exact law_call KX G.T.g G.T.b G.T.builtins G.T.nolimit hg hobj hints (Nat.le_trans hlen hn2) hr hF hb (fun H hO hS=>hsp w H a ns hlen hO hS) fun H e s'=>hCX w H s₁ e s'
end L2
namespace L2
open PySem PySem.Spec PyProof.Rows
noncomputable def defArgs (s:Stmt):Arguments:=match s with
  | .FunctionDef _ a _ _ _ _ _ _ _ _=>a
  | _=>{ posonlyargs:=[],args:=[],vararg:=none,kwonlyargs:=[],kw_defaults:=[],kwarg:=none,defaults:=[] }
noncomputable def defBody (s:Stmt):List Stmt:=match s with
  | .FunctionDef _ _ b _ _ _ _ _ _ _=>b
  | _=>[]
noncomputable def defScope (s:Stmt):Scope:=match s with
  | .FunctionDef _ _ _ _ _ _ sc _ _ _=>sc
  | _=>{ kind:=.function,names:=[],isGenerator:=false,isCoroutine:=false }
noncomputable abbrev CX0:CXT:=fun _ _ _ _ _ _=>False
noncomputable abbrev E0:XK:=fun _ _ _=>False
theorem pass0 {X:Cx}:Passes CX0 X E0:=fun _ _ _ _ _ _ _ h=>h.elim
structure Fun (K:PySem.W.Frag)(x qual:Str)(st:Stmt)(f:Addr)(fd:FuncData):Prop where
  ex:∃ (oc:Value) (od:Option Addr) (kV doc pm:Value) (an:Option Addr) (cdv ct:Value) (osl:Array (Option Value)),
    fd=PySem.W.fnOf x qual (defArgs st) (defBody st) (defScope st) .none kV doc pm an cdv ct∧K.lookup f=some ⟨oc,od,.func fd,osl⟩∧PySem.W.codeIn K cdv qual=true
  kp:PySem.W.keepIn K (.ref f)=true
section
variable {P:Program}{w:World}{K:PySem.W.Frag}{mg:Str→Option Value}{base:Heap}
theorem Fun.ok {x qual:Str}{st:Stmt}{f:Addr}{fd:FuncData}{N ps:List Str}{k:Nat}{sp:Sp}(F:Fun K x qual st f fd)(S:FnScope N ps (defScope st))(len:∀ vs H Q E,sp vs H Q E→vs.length=ps.length)
    (hbody:∀ (cdv:Value) (A:Around) (outer:List Env) (s:Shared) (H:Hp) (vs:List V) (Q:VK) (E:XK),Room k (A.deeper (envOfC qual (defScope st) s.heap.objs.size f cdv))→sp vs H Q E→
      ∃ t,PSs (cxOf CX0 P w K mg base N qual (defScope st) f cdv A outer s H E).nox (defBody st) t∧t { nx:=fun _ H'=>Q .non H',rt:=Q } (start N vs) H):FnOk P w K mg base CX0 (k+1) f fd ps sp:=by
  obtain ⟨oc,od,kV,doc,pm,an,cdv,ct,osl,rfl,lk,hcd⟩:=F.ex
  refine fn_of lk hcd S len fun A outer s H vs Q E hr hsp=>?_
  obtain ⟨t,h,q⟩:=hbody cdv A outer s H vs Q E hr hsp
  exact ⟨t,h.nox,q⟩
theorem Fun.binds {x qual:Str}{st:Stmt}{f:Addr}{fd:FuncData}{ps:List Str}(F:Fun K x qual st f fd)
    (h:∀ (kV doc pm:Value) (an:Option Addr) (cdv ct:Value) (us:List Value),us.length=ps.length→bindArgs (PySem.W.fnOf x qual (defArgs st) (defBody st) (defScope st) .none kV doc pm an cdv ct) ⟨us,[]⟩=pure (ps.zip us)):Binds K fd ps []:=by
  obtain ⟨oc,od,kV,doc,pm,an,cdv,ct,osl,rfl,lk,hcd⟩:=F.ex
  exact .all (h kV doc pm an cdv ct)
theorem fun_mk {x qual:Str}{st:Stmt}{f:Addr}{oc:Value}{od an:Option Addr}{osl:Array (Option Value)}{kV doc pm cdv ct:Value}(l:K.lookup f=some ⟨oc,od,.func (PySem.W.fnOf x qual (defArgs st) (defBody st) (defScope st) .none kV doc pm an cdv ct),osl⟩)
    (c:PySem.W.codeIn K cdv qual=true) (k:PySem.W.keepIn K (.ref f)=true):Fun K x qual st f (PySem.W.fnOf x qual (defArgs st) (defBody st) (defScope st) .none kV doc pm an cdv ct):=⟨⟨oc,od,kV,doc,pm,an,cdv,ct,osl,rfl,l,c⟩,k⟩
end
section
variable {X:Cx}
theorem pv (i:Nat){x:Str}{pos:Pos}(hN:X.N[i]?=some x:=by rfl)(hv:Vis X.env.scope x:=by first | exact Or.inl rfl | exact Or.inr (Or.inl rfl) | exact Or.inr (Or.inr rfl))(hd:(x == ("__debug__" : Str))=false:=by decide)
    (hcd:(x == ("__classdict__" : Str))=false:=by decide):PE X (.Name x pos) (tVar i):=pe_var hN hv hd hcd
end
theorem iteF {A B:Prop}(h:B):if false=true then A else B:=by
  rw [if_neg Bool.false_ne_true]
  exact h
theorem iteT {A B:Prop}(h:A):if true=true then A else B:=by
  rw [if_pos rfl]
  exact h
noncomputable def Same (H H':Hp):Prop:=∀ b o,H b=some o→H' b=some o
theorem Same.refl (H:Hp):Same H H:=fun _ _ h=>h
end L2
namespace Se
open PySem
noncomputable def Rise (xs:Array Nat):Prop:=∀ i j,i < j→j < xs.size→xs.getD i 0 < xs.getD j 0
theorem getD_in {xs:Array Nat}{i d e:Nat}(h:i < xs.size):xs.getD i d=xs.getD i e:=by simp [h]
theorem go_spec {xs:Array Nat}{j:Nat}(R:Rise xs):∀ (fuel lo hi:Nat),lo≤hi→hi≤xs.size→hi - lo≤fuel→(∀ i,i < lo→xs.getD i 0 < j)→(∀ i,hi≤i→i < xs.size→j≤xs.getD i 0)→
    (SetTable.below.go xs j fuel lo hi)≤xs.size∧(∀ i,i < SetTable.below.go xs j fuel lo hi→xs.getD i 0 < j)∧∀ i,SetTable.below.go xs j fuel lo hi≤i→i < xs.size→j≤xs.getD i 0
  | 0,lo,hi,h1,h2,h3,h4,h5=>by
    have e:lo=hi:=by lia
    subst e
    exact ⟨h2,h4,h5⟩
  | fuel+1,lo,hi,h1,h2,h3,h4,h5=>by
    unfold SetTable.below.go
    by_cases z:lo < hi
    · rw [if_pos z]
      dsimp only
      have hm:(lo+hi) / 2 < xs.size:=by lia
      by_cases q:xs.getD ((lo+hi) / 2) j < j
      · rw [if_pos q]
        refine go_spec R fuel _ _ (by lia) h2 (by lia) (fun i hi'=>?_) h5
        rw [getD_in (e:=0) hm] at q
        by_cases e:i=(lo+hi) / 2
        · rw [e]; exact q
        · exact Nat.lt_trans (R i ((lo+hi) / 2) (by lia) hm) q
      · rw [if_neg q]
        refine go_spec R fuel _ _ (by lia) (by lia) (by lia) h4 fun i hi' hs=>?_
        rw [getD_in (e:=0) hm] at q
        by_cases e:i=(lo+hi) / 2
        · rw [e]; lia
        · have:=R ((lo+hi) / 2) i (by lia) hs
          lia
    · rw [if_neg z]
      have e:lo=hi:=by lia
      subst e
      exact ⟨h2,h4,h5⟩
theorem below_spec {xs:Array Nat}(R:Rise xs)(j:Nat):SetTable.below xs j≤xs.size∧(∀ i,i < SetTable.below xs j→xs.getD i 0 < j)∧∀ i,SetTable.below xs j≤i→i < xs.size→j≤xs.getD i 0:=by
  unfold SetTable.below
  exact go_spec R _ _ _ (by lia) (by lia) (by lia) (fun i h=>by lia) fun i h1 h2=>by lia
theorem below_next {xs:Array Nat}(R:Rise xs){i:Nat}(h:i < xs.size):SetTable.below xs (xs.getD i 0+1)=i+1:=by
  obtain ⟨h1,h2,h3⟩:=below_spec R (xs.getD i 0+1)
  by_cases a:SetTable.below xs (xs.getD i 0+1)≤i
  · have:=h3 i a h
    lia
  · by_cases b:i+1 < SetTable.below xs (xs.getD i 0+1)
    · have q:=h2 (i+1) b
      have:=R i (i+1) (by lia) (by lia)
      lia
    · lia
theorem below_zero {xs:Array Nat}(R:Rise xs):SetTable.below xs 0=0:=by
  obtain ⟨h1,h2,h3⟩:=below_spec R 0
  by_cases a:SetTable.below xs 0=0
  · exact a
  · have:=h2 0 (by lia)
    lia
theorem getD_insertAt {xs:Array Nat}{p x i:Nat}(hp:p≤xs.size):(SetTable.insertAt xs p x).getD i 0=if i < p then xs.getD i 0 else if i=p then x else xs.getD (i - 1) 0:=by
  unfold SetTable.insertAt
  have e1:((xs.extract 0 p).push x++xs.extract p xs.size).getD i 0=(((xs.toList.take p)++[x])++xs.toList.drop p).getD i 0:=by
    rw [Array.getD_eq_getD_getElem?,List.getD_eq_getElem?_getD,←Array.getElem?_toList]
    congr 2
    simp [Array.toList_extract,List.extract]
    rw [List.take_of_length_le (by simp)]
  rw [e1]
  have e2:∀ k,xs.getD k 0=xs.toList.getD k 0:=fun k=>by
    rw [Array.getD_eq_getD_getElem?,List.getD_eq_getElem?_getD,Array.getElem?_toList]
  simp only [e2]
  have hl:(xs.toList.take p).length=p:=by simp [hp]
  by_cases a:i < p
  · rw [if_pos a]
    simp only [List.getD_eq_getElem?_getD]
    rw [List.getElem?_append_left (by simp; lia),List.getElem?_append_left (by rw [hl]; exact a),List.getElem?_take,if_pos a]
  · rw [if_neg a]
    by_cases b:i=p
    · rw [if_pos b]
      subst b
      simp only [List.getD_eq_getElem?_getD]
      rw [List.getElem?_append_left (by simp; lia),List.getElem?_append_right (by rw [hl]; exact Nat.le_refl _),hl]
      simp
    · rw [if_neg b]
      simp only [List.getD_eq_getElem?_getD]
      rw [List.getElem?_append_right (by simp; lia),List.getElem?_drop]
      congr 2
      simp
      lia
theorem size_insertAt {α:Type}{xs:Array α}{p:Nat}{x:α}(hp:p≤xs.size):(SetTable.insertAt xs p x).size=xs.size+1:=by
  unfold SetTable.insertAt
  simp
  lia
theorem rise_put {xs:Array Nat}(R:Rise xs){j:Nat}(hj:∀ i,i < xs.size→xs.getD i 0≠j):Rise (SetTable.insertAt xs (SetTable.below xs j) j):=by
  obtain ⟨h1,h2,h3⟩:=below_spec R j
  intro a b hab hb
  rw [size_insertAt h1] at hb
  rw [getD_insertAt h1,getD_insertAt h1]
  by_cases a1:a < SetTable.below xs j
  · rw [if_pos a1]
    by_cases b1:b < SetTable.below xs j
    · rw [if_pos b1]; exact R a b hab (by lia)
    · rw [if_neg b1]
      by_cases b2:b=SetTable.below xs j
      · rw [if_pos b2]; exact h2 a a1
      · rw [if_neg b2]
        exact R a (b - 1) (by lia) (by lia)
  · have b1:¬ b < SetTable.below xs j:=by lia
    have b2:b≠SetTable.below xs j:=by lia
    rw [if_neg a1,if_neg b1,if_neg b2]
    by_cases a2:a=SetTable.below xs j
    · rw [if_pos a2]
      have q:=h3 (b - 1) (by lia) (by lia)
      have:=hj (b - 1) (by lia)
      lia
    · rw [if_neg a2]
      exact R (a - 1) (b - 1) (by lia) (by lia)
end Se
namespace Se
open PySem
theorem below_at {xs:Array Nat}(R:Rise xs){k j:Nat}(hk:k < xs.size)(e:xs.getD k 0=j):SetTable.below xs j=k:=by
  obtain ⟨h1,h2,h3⟩:=below_spec R j
  by_cases a:k < SetTable.below xs j
  · have:=h2 k a
    omega
  · by_cases b:SetTable.below xs j < k
    · have q:=h3 (SetTable.below xs j) (Nat.le_refl _) (by omega)
      have:=R (SetTable.below xs j) k b hk
      omega
    · omega
theorem not_live {t:SetTable}(R:Rise t.place){j:Nat}(h:∀ i,t.slot j≠.live i):∀ i,i < t.place.size→t.place.getD i 0≠j:=fun i hi e=>by
  refine h i ?_
  unfold SetTable.slot
  dsimp only
  rw [below_at R hi e]
  have q:t.place[i]?=some j:=by
    rw [Array.getElem?_eq_getElem hi,←e]
    simp [hi]
  rw [q]
  simp
theorem probe_free {t:SetTable}{hashAt:Nat→Int}{h:Int}:∀ (fuel:Nat) (p:SetTable.Probe) (j:Nat) (d:Option Nat),(∀ x,p.dummy=some x→t.slot x=.dummy)→SetTable.probe.go t hashAt h fuel p=some (.empty j d)→
    t.slot j=.empty∧∀ x,d=some x→t.slot x=.dummy
  | 0,_,_,_,_,e=>by cases e
  | fuel+1,p,j,d,hp,e=>by
    have adv:∀ p:SetTable.Probe,(t.advance p).dummy=p.dummy:=fun p=>by
      unfold SetTable.advance
      split<;>rfl
    unfold SetTable.probe.go at e
    split at e
    · rename_i q
      cases e
      exact ⟨q,hp⟩
    · rename_i q
      refine probe_free fuel _ j d (fun x hx=>?_) e
      rw [adv] at hx
      cases hx
      exact q
    · split at e
      · cases e
      · refine probe_free fuel _ j d (fun x hx=>?_) e
        rw [adv] at hx
        exact hp x hx
theorem freeSlot_new {t:SetTable}(R:Rise t.place){h:Int}{j:Nat}{b:Bool}(e:t.freeSlot h=some (j,b)):∀ i,i < t.place.size→t.place.getD i 0≠j:=by
  unfold SetTable.freeSlot at e
  split at e
  · rename_i j' d q
    unfold SetTable.probe at q
    obtain ⟨h1,h2⟩:=probe_free _ _ _ _ (fun x hx=>by cases hx) q
    cases e
    refine not_live R fun i hi=>?_
    cases d with
    | none=>
      have hi:t.slot j'=.live i:=hi
      rw [h1] at hi; cases hi
    | some x=>
      have hi:t.slot x=.live i:=hi
      rw [h2 x rfl] at hi; cases hi
  · cases e
theorem rise_range (n:Nat):Rise (Array.range n):=fun i j h hj=>by
  rw [Array.size_range] at hj
  simp [hj,Nat.lt_trans h hj]
  exact h
theorem stand_rise {t:SetTable}(R:Rise t.place)(n:Nat):Rise (t.orStandIn n).place∧(t.orStandIn n).led=t.led:=by
  unfold SetTable.orStandIn
  split
  · exact ⟨R,rfl⟩
  · exact ⟨rise_range _,rfl⟩
theorem lay_rise {t:SetTable}(R:Rise t.place){es:Array (Int×Value)}{h:Int}{x:Value}:Rise (layNew t es h x).2.1.place∧(layNew t es h x).2.1.led=t.led:=by
  unfold layNew
  split
  · rename_i slot wasDummy e
    have new:=freeSlot_new R e
    have R':Rise (t.put slot).1.place:=rise_put R new
    have q:=stand_rise R' (SetTable.insertAt es (t.put slot).2 (h,x)).size
    exact ⟨q.1,q.2⟩
  · exact ⟨rise_range _,rfl⟩
theorem rise_list {l:List Nat}(h:l.Pairwise (· < ·)):Rise l.toArray:=fun i j hij hj=>by
  have hj:j < l.length:=by simpa using hj
  have:=List.pairwise_iff_getElem.mp h i j (Nat.lt_trans hij hj) hj hij
  simpa [hj,Nat.lt_trans hij hj] using this
theorem relaid_rise {t:SetTable}{hs:Array Int}{n:Nat}{t':SetTable}{o:Array Nat}(e:t.relaid hs n=some (t',o)):Rise t'.place∧t'.led=t.led:=by
  unfold SetTable.relaid SetTable.laid at e
  simp only [Option.bind_eq_bind,Option.pure_def] at e
  cases q:SetTable.layClean (SetTable.sizeAbove n - 1) hs with
  | none=>rw [q] at e; cases e
  | some ow=>
    rw [q] at e
    simp only [Option.bind_some,Option.some.injEq,Prod.mk.injEq] at e
    obtain ⟨rfl,_⟩:=e
    refine ⟨rise_list ?_,rfl⟩
    rw [List.map_filterMap]
    have sub:∀ (l:List Nat),((l.filterMap fun j=>Option.map (fun x:Nat×Nat=>x.1) (Option.map (fun x=>(j,x)) (ow.getD j none)))).Sublist l:=by
      intro l
      induction l with
      | nil=>exact .slnil
      | cons a l ih=>
        cases z:ow.getD a none with
        | none=>
          rw [List.filterMap_cons_none (by rw [z]; rfl)]
          exact .cons _ ih
        | some y=>
          rw [List.filterMap_cons_some (b:=a) (by rw [z]; rfl)]
          exact .cons_cons _ ih
    exact List.Pairwise.sublist (sub _) List.pairwise_lt_range
theorem relay_rise {t:SetTable}{es:Array (Int×Value)}{n:Nat}:Rise (relayAll t es n).2.1.place∧(relayAll t es n).2.1.led=t.led:=by
  unfold relayAll
  split
  · rename_i t' order e
    dsimp only
    split
    · exact relaid_rise e
    · exact ⟨rise_range _,rfl⟩
  · exact ⟨rise_range _,rfl⟩
end Se
namespace Se
open PySem
noncomputable def EK (e:Int×Value):Prop:=∃ k t,e=(hashInt k,.int k t)
noncomputable def kof (e:Int×Value):Int:=match e.2 with
  | .int k _=>k
  | _=>0
noncomputable def SetD (o:Obj)(led:Bool)(ks:List Int):Prop:=
  o.ExactSet∧∃ es ep t,o.data=.set es ep t∧(∀ e∈es.toList,EK e)∧(es.toList.map kof).Perm ks∧es.size < scanBound∧t.fits es.size=true∧Rise t.place∧t.led=led
noncomputable def SetP (h:Heap)(a:Addr)(led:Bool)(ks:List Int):Prop:=∃ o,h.get? a=some o∧SetD o led ks
variable {prog:Program}{w:World}{A:Around}{E:Value→Shared→Prop}{s:Shared}
theorem elems_of {l:List (Int×Value)}(h:∀ e∈l,EK e):ElemsOf (intKind prog w) l:=fun e he=>by
  obtain ⟨k,t,rfl⟩:=h e he
  exact ⟨⟨k,intKind_is _ _ _ _,rfl⟩,rfl⟩
theorem kof_is {e:Int×Value}(h:EK e)(k:Int):(intKind prog w).is k e.2=decide (kof e=k):=by
  obtain ⟨k',t,rfl⟩:=h
  show Value.isInt k (.int k' t)=decide (k'=k)
  by_cases e:k'=k
  · subst e; simp [Value.isInt]
  · simp [Value.isInt,e]
theorem put_get {h:Heap}{a:Addr}{o:Obj}{es es':Array (Int×Value)}{ep:Nat}{t t':SetTable}(ho:h.get? a=some o)(hd:o.data=.set es ep t):
    (h.update a (Obj.putSet es' t')).get? a=some { o with data:=.set es' (ep+1) t' }:=by
  have q:=Heap.get?_update_self (Obj.putSet es' t') ho (by rw [putSet_of es' t' hd]; rfl)
  rw [putSet_of es' t' hd] at q
  exact q
theorem off_same {t:SetTable}{n:Nat}(hf:t.fits n=true)(R:Rise t.place)(b:Bool):(if b=true then t else { t with plain:=false }).fits n=true∧Rise (if b=true then t else { t with plain:=false }).place∧(if b=true then t else { t with plain:=false }).led=t.led:=by
  cases b
  · exact ⟨SetTable.fits_plain_off hf,R,rfl⟩
  · exact ⟨hf,R,rfl⟩
theorem laid_end {g:Bool→Sem Unit}(hg:∀ (b:Bool) (s₁:Shared) (Q':Unit→Shared→Prop),Q' () s₁→wpAny (model prog w) A (g b) Q' E s₁){a:Addr}{o:Obj}{es es1:Array (Int×Value)}{ep:Nat}{t t2:SetTable}{led:Bool}{ks:List Int}
    (ho:s.heap.get? a=some o) (hx:o.ExactSet) (hd:o.data=.set es ep t) (k1:∀ e∈es1.toList,EK e) (k2:(es1.toList.map kof).Perm ks) (k3:es1.size < scanBound) (k4:t2.fits es1.size=true) (k5:Rise t2.place) (k6:t2.led=led) {wd:Bool}
    {R:Option Bool→Shared→Prop} (h:∀ h',Heap.SameBut a s.heap h'→SetP h' a led ks→R (some true) { s with heap:=h' }):
    wpAny (model prog w) A (do
      storeSet a es1 t2
      if (!wd && t2.tooFull)=true then do
        g (relayAll t2 es1 (SetTable.grown es1.size)).2.2
        storeSet a (relayAll t2 es1 (SetTable.grown es1.size)).1 (relayAll t2 es1 (SetTable.grown es1.size)).2.1
        pure (some true)
      else pure (some true)) R E s:=by
  refine wpAny_bind (wpAny_storeSet_of ho hd ?_ (fits_of_scanBound k3))
  have ho1:=put_get (es':=es1) (t':=t2) ho hd
  have b1:=Heap.SameBut.update s.heap a (Obj.putSet es1 t2)
  split
  · have hp:=relayAll_perm t2 es1 (SetTable.grown es1.size)
    have hf:=relayAll_fits t2 es1 (SetTable.grown es1.size)
    obtain ⟨r1,r2⟩:=relay_rise (t:=t2) (es:=es1) (n:=SetTable.grown es1.size)
    generalize relayAll t2 es1 (SetTable.grown es1.size)=rl at hp hf r1 r2 ⊢
    obtain ⟨es2,t3,gv⟩:=rl
    dsimp only at hp hf r1 r2 ⊢
    have sz:es2.size=es1.size:=by rw [←Array.length_toList,hp.length_eq,Array.length_toList]
    have z2:es2.size < scanBound:=by rw [sz]; exact k3
    refine wpAny_bind (hg _ _ _ (wpAny_bind (wpAny_storeSet_of ho1 rfl ?_ (fits_of_scanBound z2))))
    have ho2:=put_get (es':=es2) (t':=t3) ho1 rfl
    exact wpAny_pure (h _ (b1.trans (Heap.SameBut.update _ a _)) ⟨_,ho2,hx,es2,_,t3,rfl,fun e he=>k1 e (hp.mem_iff.mp he),(hp.map kof).trans k2,z2,hf,r1,r2.trans k6⟩)
  · exact wpAny_pure (h _ b1 ⟨_,ho1,hx,es1,_,t2,rfl,k1,k2,k3,k4,k5,k6⟩)
theorem add_int {a:Addr}{led:Bool}{ks:List Int}{k:Int}{tk:Tok}{Q:Bool→Shared→Prop}(hS:SetP s.heap a led ks)(hroom:ks.length+1 < scanBound)
    (h:∀ h' b,Heap.SameBut a s.heap h'→SetP h' a led (PyProof.Rows.step_dedup ks k)→Q b { s with heap:=h' }):
    wpAny (model prog w) A (setAddHashed a (.int k tk) (hashInt k)) Q E s:=by
  obtain ⟨o,ho,hx,es,ep,t,hd,k1,k2,k3,k4,k5,k6⟩:=hS
  have sz:es.size=ks.length:=by rw [←Array.length_toList,←k2.length_eq,List.length_map]
  have el:=elems_of (prog:=prog) (w:=w) k1
  unfold setAddHashed setAddHashedIn
  refine wpAny_holding (wpAny_bind (wpAny_setState_of ho hd k4 ?_))
  dsimp only
  rw [byScan_of (knd:=intKind prog w) (x:=.int k tk) rfl k3 el]
  simp only [↓reduceIte]
  unfold setAddByScan
  refine wpAny_bind (wpAny_bind (wpAny_rule (wpAny_bind (wpAny_setScan_of (knd:=intKind prog w) (intKind_is _ _ k tk) ho hd k4 el ?_))))
  have mem:∀ j,(∃ e∈es.toList,(intKind prog w).is j e.2=true)↔j∈ks:=fun j=>by
    rw [←k2.mem_iff,List.mem_map]
    constructor
    · rintro ⟨e,he,q⟩
      rw [kof_is (k1 e he)] at q
      exact ⟨e,he,of_decide_eq_true q⟩
    · rintro ⟨e,he,q⟩
      exact ⟨e,he,by rw [kof_is (k1 e he)]; exact decide_eq_true q⟩
  cases hr:es.toList.findIdx? (fun e=>(intKind prog w).is k e.2) with
  | some j=>
    dsimp only
    obtain ⟨hj,hpj,_⟩:=List.findIdx?_eq_some_iff_getElem.mp hr
    have hk:k∈ks:=(mem k).mp ⟨_,List.getElem_mem hj,hpj⟩
    have e:PyProof.Rows.step_dedup ks k=ks:=by
      unfold PyProof.Rows.step_dedup
      simp [hk]
    refine wpAny_pure (wpAny_pure ?_)
    have q:=h s.heap false (Heap.SameBut.refl a s.heap)
    rw [e] at q
    have z:s={ s with heap:=s.heap }:=by cases s; rfl
    rw [z]
    exact q ⟨o,ho,hx,es,ep,t,hd,k1,k2,k3,k4,k5,k6⟩
  | none=>
    dsimp only
    have hk:k∉ks:=fun z=>by
      obtain ⟨e,he,q⟩:=(mem k).mpr z
      have:=List.findIdx?_eq_none_iff.mp hr e he
      rw [q] at this
      cases this
    have e:PyProof.Rows.step_dedup ks k=ks++[k]:=by
      unfold PyProof.Rows.step_dedup
      simp [hk]
    rw [e] at h
    have gw:∀ (b:Bool) {s₁:Shared} {Q':Unit→Shared→Prop},Q' () s₁→wpAny (model prog w) A (match b with | true=>rule "set.scan.the-table-gave-way" | false=>pure ()) Q' E s₁:=fun b s₁ Q' hq=>by
      cases b
      · exact wpAny_pure hq
      · exact wpAny_rule hq
    have hp:=layNew_perm t es (hashInt k) (.int k tk)
    have hf:=layNew_fits t es (hashInt k) (.int k tk)
    obtain ⟨r1,r2⟩:=lay_rise (es:=es) (h:=hashInt k) (x:=.int k tk) k5
    generalize layNew t es (hashInt k) (.int k tk)=ly at hp hf r1 r2 ⊢
    obtain ⟨es1,t1,wd,gv⟩:=ly
    dsimp only at hp hf r1 r2 ⊢
    rw [Array.toList_push] at hp
    have n1:∀ x∈es1.toList,EK x:=fun x hx=>by
      rcases List.mem_append.mp (hp.mem_iff.mp hx) with q | q
      · exact k1 x q
      · rw [List.mem_singleton] at q
        exact ⟨k,tk,q⟩
    have n2:(es1.toList.map kof).Perm (ks++[k]):=by
      refine (hp.map kof).trans ?_
      rw [List.map_append]
      exact List.Perm.append_right _ k2
    have n3:es1.size < scanBound:=by
      rw [←Array.length_toList,hp.length_eq,List.length_append,Array.length_toList,sz]
      exact hroom
    refine wpAny_bind (gw _ ?_)
    have fin:∀ h',Heap.SameBut a s.heap h'→SetP h' a led (ks++[k])→Q true { s with heap:=h' }:=fun h' hb hS'=>h h' true hb hS'
    split
    · refine wpAny_bind ?_
      rw [hashByValue_scannable 8 (x:=.int k tk) rfl]
      refine wpAny_pure ?_
      obtain ⟨o1,o2,o3⟩:=off_same hf r1 (plainKind (.int k tk))
      refine laid_end (fun b s₁ Q' hq=>gw b hq) ho hx hd n1 n2 n3 o1 o2 (o3.trans (r2.trans k6)) fun h' hb hS'=>?_
      exact wpAny_pure (fin h' hb hS')
    · refine wpAny_bind (wpAny_pure ?_)
      simp only [↓reduceIte]
      refine laid_end (fun b s₁ Q' hq=>gw b hq) ho hx hd n1 n2 n3 hf r1 (r2.trans k6) fun h' hb hS'=>?_
      exact wpAny_pure (fin h' hb hS')
end Se
namespace Se
open PySem PySem.Spec
noncomputable abbrev sO (led:Bool):Obj:={ cls:=.type "set",dict:=none,data:=.set #[] 0 (.fresh 0 0 led) }
theorem fresh_p {h:Heap}{a:Addr}{led:Bool}(e:h.get? a=some (sO led)):SetP h a led []:=
  ⟨_,e,⟨rfl,rfl,rfl⟩,#[],0,_,rfl,fun x hx=>by simp at hx,.refl _,by decide,rfl,fun i j _ hj=>by simp [SetTable.fresh] at hj,rfl⟩
section
variable {prog:Program}{w:World}{A:Around}{R:Result→Shared→Prop}{I:Addr}{fp wr:List Addr}{G:Array GenState→Array GenState→Prop}{n:Nat}{P:Nat→Value→Prop}{St:Nat→Shared→Prop}
theorem SetP.moved {s s':Shared}{a:Addr}{led:Bool}{ks:List Int}(h:SetP s.heap a led ks)(m:Moved wr G s s')(ha:a∉wr):SetP s'.heap a led ks:=by
  obtain ⟨o,ho,r⟩:=h
  exact ⟨o,m.heap a _ ha ho,r⟩
theorem fill_loop (W:WalksS prog w A.in1 I fp wr G n P St)(S:Addr)(nS:S∉fp)(val:Nat→Int)(hv:∀ i v,P i v→∃ t,v=.int (val i) t)(hb:n+1 < scanBound)(led:Bool):
    ∀ (k i:Nat) (s:Shared),n - i=k→i≤n→St i s→SetP s.heap S led (PyProof.Rows.firstMet val i)→(∀ s',Moved (S::wr) G s s'→SetP s'.heap S led (PyProof.Rows.firstMet val n)→R (.ok (.ret .none)) s')→
      codeAny (model prog w) A (.builtin "set.update.loop" ⟨[.ref S,.ref I],[]⟩) R s:=by
  have nw:S∉wr:=fun h=>nS (W.sub _ h)
  have sub:∀ b∈wr,b∈S::wr:=fun b z=>List.mem_cons_of_mem _ z
  intro k
  induction k with
  | zero=>
    intro i s e hi st hS fin
    obtain rfl:i=n:=by omega
    refine codeAny_builtin PyProof.Rows.F.entry_set_update_loop ?_
    rw [Around.under_plainId PyProof.Rows.F.plain_set_update_loop _]
    show wpAny _ A.in1 (pyNext (.ref I)>>=_) _ _ s
    exact wpAny_bind (W.done s _ _ st fun s' m=>wpAny_pure (fin s' (m.mono sub) (hS.moved m nw)))
  | succ k ih=>
    intro i s e hi st hS fin
    have lt:i < n:=by omega
    refine codeAny_builtin PyProof.Rows.F.entry_set_update_loop ?_
    rw [Around.under_plainId PyProof.Rows.F.plain_set_update_loop _]
    show wpAny _ A.in1 (pyNext (.ref I)>>=_) _ _ s
    refine wpAny_bind (W.item i s _ _ lt st fun v s' hP st' m=>?_)
    obtain ⟨t,rfl⟩:=hv i v hP
    have hS':=hS.moved m nw
    show wpAny _ A.in1 (holding [Value.int (val i) t] (setAdd S (.int (val i) t))>>=_) _ _ s'
    refine wpAny_bind (wpAny_holding ?_)
    unfold setAdd
    refine wpAny_holding (wpAny_bind ((intKind prog w).pyHash (k:=val i) (intKind_is _ _ _ _) ?_))
    have room:(PyProof.Rows.firstMet val i).length+1 < scanBound:=Nat.lt_of_le_of_lt (Nat.succ_le_succ (Nat.le_trans (PyProof.Rows.firstMet_length_le val i) hi)) hb
    refine add_int (s:={ s' with toks:=s'.toks+1 }) hS' room fun h' b sb hS2=>?_
    rw [←PyProof.Rows.firstMet_succ] at hS2
    refine wpAny_pure ⟨plainId_quiet PyProof.Rows.F.plain_set_update_loop _,ih (i+1) _ (by omega) lt (W.frame _ s' _ _ st' (Nat.le_succ _) fun b hb o e=>?_) hS2 fun s'' m2 hS3=>?_⟩
    · rw [sb.2 b fun z:b=S=>nS (z ▸ hb)]; exact e
    · refine fin s'' (Moved.trans W.gtrans ((m.mono sub).then_heap (Nat.le_succ _) fun b o hb e=>?_) m2) hS3
      rw [sb.2 b fun z:b=S=>hb (z ▸ List.mem_cons_self)]; exact e
end
section
variable {prog:Program}{w:World}{A:Around}{E:Value→Shared→Prop}{s:Shared}
noncomputable def ledOf (w:World):Bool:=!w.params.followText "set-order"
theorem new_set (a:Value){Q₁:Value→Shared→Prop}(h:Q₁ (.ref s.heap.objs.size) { s with heap:=s.heap.push (sO (ledOf w)) }):
    codeAny (model prog w) A (.call (.builtin "set.__new__") ⟨[.type "set",a],[]⟩) (wants Q₁ E) s:=by
  refine codeAny_of_tree ?_
  show wpAny _ A.in1 (do checkBuiltinCall "set.__new__" ⟨[.type "set",a],[]⟩; again (.builtin "set.__new__" ⟨[.type "set",a],[]⟩)) _ _ s
  refine wpAny_bind (wpAny_of_eq (F.newCall_set_1 a) (wpAny_pure ⟨plainId_quiet F.plain_set_new _,codeAny_builtin F.entry_set_new ?_⟩))
  rw [Around.under_plainId F.plain_set_new _]
  unfold Builtin.«set.__new__» Builtin.Frozenset.newClass
  have hsub:=sub_set_self
  obtain ⟨hp,g,d,tk,os⟩:=s
  dsimp only
  wp_walk
  refine wpAny_askSetting (wpAny_pure ?_)
  dsimp only
  simp only [newObj]
  exact wpAny_bind (wpAny_alloc (wpAny_pure (wpAny_pure h)))
end
end Se
namespace Se
open PySem PySem.Spec
section
variable {prog:Program}{w:World}{A:Around}{E:Value→Shared→Prop}{s:Shared}
noncomputable abbrev kept (s:Shared)(h':Heap):Prop:=∀ b o,b < s.heap.objs.size→s.heap.get? b=some o→h'.get? b=some o
noncomputable abbrev dd (ns:List Int)(m:Nat):List Int:=PyProof.Rows.firstMet (fun i=>ns.getD i 0) m
set_option maxHeartbeats 3200000 in
theorem call_setP {l:Addr}{items:Array Value}{ns:List Int}{Q:Value→Shared→Prop}(hh:A.handled=none)(hl:s.heap.IsList l items)(hi:PyProof.Rows.IntsAre items.toList ns)(hb:items.size+1 < scanBound)
    (h:∀ (h':Heap) (tk:Nat),SetP h' s.heap.objs.size (ledOf w) (dd ns items.size)→kept s h'→Q (.ref s.heap.objs.size) { s with heap:=h',toks:=tk }):
    wpAny (model prog w) A (call (.type "set") [.ref l]) Q E s:=by
  obtain ⟨c,tl,hmro⟩:=F.called_set.mro
  have hmade:=F.called_set.made
  have hsub:=F.called_set.sub
  refine wpAny_call (codeAny_of_tree ?_)
  show wpAny _ _ (callAny (.type "set") _) _ _ _
  refine wpAny_pure ⟨Code.quiet_builtin _ (by decide +kernel),codeAny_builtin F.entry_type_call ?_⟩
  rw [Around.under_plain (weight_type_call_type "set" [.ref l] []) rfl]
  have h1:=F.called_set.notType
  have h2:=F.called_set.canCreate
  have hct:=F.typeCall_set_1 (.ref l)
  repeat (any_goals (first | assumption | wp_step))
  refine codeAny_mono (new_set (.ref l) (E:=E) (Q₁:=fun ob s₁=>ob=.ref s.heap.objs.size∧s₁={ s with heap:=s.heap.push (sO (ledOf w)) }) ⟨rfl,rfl⟩) fun r s₁ hr=>?_
  cases r with
  | error e=>exact hr
  | ok fl=>
    cases fl with
    | ret ob=>
      obtain ⟨rfl,rfl⟩:=hr
      generalize ledOf w=led at*
      have g0:(s.heap.push (sO led)).get? s.heap.objs.size=some (sO led):=Heap.get?_push_size _ rfl
      have hT:Shared.TypeIs { s with heap:=s.heap.push (sO led) } (.ref s.heap.objs.size) "set" := ⟨_,g0,rfl⟩
      have hli:=F.called_set.init.lookup
      have hbi:=F.called_set.init.bind (.ref s.heap.objs.size)
      repeat (any_goals (first | assumption | wp_step))
      refine codeAny_mono (codeAny_call_builtin (R:=wants (fun r s₂=>r=.none∧∃ h' tk,s₂={ s with heap:=h',toks:=tk }∧SetP h' s.heap.objs.size led (dd ns items.size)∧kept s h') E) F.called_set.init.plain F.entry_set_init (check_set_init_1 hT ?_)) fun r₂ s₂ hr₂=>?_
      · obtain ⟨ol,hol,hcl,nl,hdl⟩:=hl
        obtain ⟨ocls,odict,odata,oslots⟩:=ol
        simp only at hcl hdl
        subst hcl; subst hdl
        have hol':(s.heap.push (sO led)).get? l=some { cls:=.type "list",dict:=odict,data:=.seq items nl,slots:=oslots }:=Heap.get?_push_of_some _ hol
        have q1:=F.sub_list_set
        have q2:=F.sub_list_frozenset
        have q3:(Value.type "list" == Value.type "dict")=false:=by decide
        have l1:(s.heap.push (sO led)).IsList l items:=⟨_,hol',rfl,nl,rfl⟩
        unfold Builtin.«set.__init__» noKeywords Builtin.Frozenset.updateFrom
        generalize hPI:pyIter=PI
        wp_walk
        subst hPI
        refine wpAny_pyIter_list l1 (wpAny_bind (wpAny_runValue ?_))
        have lS:l < s.heap.objs.size:=Heap.lt_size hol
        have h3:A.in1.in1.in1.handled=none:=by simp [hh]
        have z0:(s.heap.push (sO led)).objs.size=s.heap.objs.size+1:=Heap.size_push _ _
        have nI:l≠(s.heap.push (sO led)).objs.size:=by rw [z0]; exact Nat.ne_of_lt (Nat.lt_succ_of_lt lS)
        have nS:s.heap.objs.size∉[(s.heap.push (sO led)).objs.size,l]:=by
          rw [z0]
          simp only [List.mem_cons,List.mem_singleton,List.not_mem_nil,or_false,not_or]
          exact ⟨Nat.ne_of_lt (Nat.lt_succ_self _),Nat.ne_of_gt lS⟩
        have vl:∀ (i:Nat) (v:Value),items[i]?=some v→∃ t,v=.int ((fun i=>ns.getD i 0) i) t:=fun i v z=>PyProof.Rows.IntsAre.int_at hi i v (by rw [Array.getElem?_toList]; exact z)
        refine fill_loop ((Walks.list h3 _ l nI items).toS) s.heap.objs.size nS (fun i=>ns.getD i 0) vl hb led (items.size - 0) 0 _ (by lia) (Nat.zero_le _) ⟨⟨_,Heap.get?_push_size _ rfl,rfl,rfl⟩,l1.push _⟩ (fresh_p (Heap.get?_push_of_some _ g0)) ?_
        intro s' m hS'
        obtain ⟨h',g',d',tk',os'⟩:=s'
        have eg:g'=s.gens:=m.gens
        have ed:d'=s.drawn:=m.drawn
        have eo:os'=s.os:=m.os
        subst eg; subst ed; subst eo
        show wpAny _ _ _ _ _ _
        refine wpAny_pure ?_
        show wpAny _ _ (ret Value.none) _ _ _
        refine wpAny_pure ⟨rfl,h',tk',rfl,hS',fun b o hb e=>?_⟩
        refine m.heap b o ?_ (Heap.get?_push_of_some _ (Heap.get?_push_of_some _ e))
        rw [z0]
        simp only [List.mem_cons,List.mem_singleton,List.not_mem_nil,or_false,not_or]
        exact ⟨Nat.ne_of_lt hb,Nat.ne_of_lt (Nat.lt_succ_of_lt hb)⟩
      · cases r₂ with
        | error e=>exact hr₂
        | ok fl₂=>
          cases fl₂ with
          | ret r=>
            obtain ⟨rfl,h',tk,rfl,hS',hk'⟩:=hr₂
            repeat (any_goals (first | assumption | wp_step))
            exact h _ _ hS' hk'
          | next=>exact hr₂.elim
          | brk=>exact hr₂.elim
          | cont=>exact hr₂.elim
    | next=>exact hr.elim
    | brk=>exact hr.elim
    | cont=>exact hr.elim
end
end Se
namespace Se
open PySem PySem.Spec
theorem erase_perm {α:Type}:∀ {l:List α} {i:Nat} (h:i < l.length),(l[i]::l.eraseIdx i).Perm l
  | a::l,0,_=>.refl _
  | a::l,i+1,h=>by
    have hi:i < l.length:=by simpa using h
    have ih:=erase_perm hi
    show (l[i]::a::l.eraseIdx i).Perm (a::l)
    exact (List.Perm.swap _ _ _).trans (List.Perm.cons _ ih)
section
variable {M:Model}{A:Around}{E:Value→Shared→Prop}
theorem wp_choose {s:Shared}{src:Source}{n:Nat}{Q:Nat→Shared→Prop}(hn:n≠0)(h:∀ i dr,i < n→Q i { s with drawn:=dr }):wpAny M A (choose src n) Q E s:=fun _ _ _=>
  ⟨hn,h _ _ (Nat.mod_lt _ (Nat.pos_of_ne_zero hn))⟩
theorem draw_perm {α:Type}(n:Nat):∀ (xs:List α) (s:Shared) {Q:List α→Shared→Prop},n=xs.length→(∀ ys dr,ys.Perm xs→Q ys { s with drawn:=dr })→wpAny M A (drawOrder n xs) Q E s:=by
  induction n with
  | zero=>
    intro xs s Q e h
    cases xs with
    | cons x xs=>cases e
    | nil=>exact wpAny_pure (h [] s.drawn (.refl _))
  | succ n ih=>
    intro xs s Q e h
    cases xs with
    | nil=>cases e
    | cons x xs=>
      have e:n=xs.length:=by simpa using e
      unfold drawOrder
      refine wpAny_bind (wp_choose (by simp) fun i dr hi=>?_)
      have hi':i < (x::xs).length:=hi
      rw [List.getElem?_eq_getElem hi']
      dsimp only
      refine wpAny_bind (ih _ _ (by rw [List.length_eraseIdx_of_lt hi']; simpa using e) fun ys dr2 hp=>wpAny_pure ?_)
      exact h _ dr2 ((List.Perm.cons _ hp).trans (erase_perm hi'))
end
theorem pick_go {α:Type}(next:Nat→Nat):∀ (fuel k:Nat) (left:List α) (out:Array α),left.length≤fuel→(pickOrder.go next fuel k left out).toList.Perm (out.toList++left)
  | 0,k,left,out,h=>by
    have:left=[]:=List.length_eq_zero_iff.mp (by lia)
    subst this
    show out.toList.Perm _
    simp
  | fuel+1,k,[],out,h=>by
    unfold pickOrder.go
    simp
  | fuel+1,k,x::left,out,h=>by
    have hi:next k % (x::left).length < (x::left).length:=Nat.mod_lt _ (by simp)
    unfold pickOrder.go
    rw [List.getElem?_eq_getElem hi]
    dsimp only
    refine (pick_go next fuel (k+1) _ _ (by rw [List.length_eraseIdx_of_lt hi]; simp at h ⊢; lia)).trans ?_
    rw [Array.toList_push,List.append_assoc]
    exact List.Perm.append_left _ (erase_perm hi)
theorem pick_perm {α:Type}(next:Nat→Nat)(xs:Array α):(pickOrder next xs).toList.Perm xs.toList:=by
  unfold pickOrder
  refine (pick_go next xs.size 0 xs.toList #[] (by simp)).trans ?_
  simp
namespace F
theorem entry_set_iter:entryFor table "set.__iter__" = some Builtin.«frozenset.__iter__»:=entryFor_alias (id' := "frozenset.__iter__") (by kernel_rfl) rfl (by decide +kernel) (by kernel_rfl)
theorem slot_si_next:Slot "set_iterator" "__next__" "set_iterator.__next__" :=
  .of (owner := "set_iterator") (n := "__next__") (by rw [typeLookup_type,builtinLookup_eq_fast]; kernel_rfl) (by decide +kernel) (by decide +kernel) (by decide +kernel)
    (by first | exact .inl (by decide +kernel) | exact .inr (by decide +kernel)) (by rw [isSubtype_type]; kernel_rfl)
theorem entry_si_next:entryFor table "set_iterator.__next__" = some Builtin.«set_iterator.__next__»:=entryFor_of_tree (by kernel_rfl)
theorem args_si_next (a:Value):argsOk "set_iterator.__next__" ⟨[a],[]⟩:=by unfold argsOk; kernel_rfl
end F
end Se
namespace Se
open PySem PySem.Spec
noncomputable abbrev itO (first:Value)(i:Int)(a:Addr)(n ep:Nat):Obj:={ cls:=.type "set_iterator",data:=.fields #[first,.int i 0,.ref a,.int n 0,.int ep 0] }
section
variable {prog:Program}{w:World}{A:Around}{E:Value→Shared→Prop}{s:Shared}
noncomputable abbrev StopE (prog:Program)(w:World)(A:Around)(Q:Option Value→Shared→Prop):Value→Shared→Prop:=fun e s'=>s'.TypeIs e "StopIteration" ∧ Q none s'
theorem next_head {I a:Addr}{first:Value}{i:Int}{n ep:Nat}{Q:Option Value→Shared→Prop}(hI:s.heap.get? I=some (itO first i a n ep))
    (h:wpAny (model prog w) A.in1 (Builtin.«set_iterator.__next__» ⟨[.ref I],[]⟩) (fun f s'=>∃ v,f=.done (.ret v)∧Q (some v) s') (StopE prog w A Q) s):
    wpAny (model prog w) A (pyNext (.ref I)) Q E s:=by
  have hT:s.TypeIs (.ref I) "set_iterator" := ⟨_,hI,rfl⟩
  unfold pyNext
  refine wpAny_bind (wpAny_attempt (wpAny_callSpecial?_slot (name:=Str.ofString "__next__") hT F.slot_si_next (wpAny_call_entry F.slot_si_next hT F.entry_si_next ?_ (F.args_si_next _))))
  refine wpAny_mono h (fun f s' ⟨v,e,q⟩=>⟨v,e,wpAny_pure q⟩) fun e s' q=>?_
  exact wpAny_bind (wpAny_isInstance (T := "StopIteration") (b:=true) q.1 isSubtype_stop (wpAny_pure q.2))
theorem raise_stop {A1:Around}{s1:Shared}{α:Type}{Q1:α→Shared→Prop}{Q:Option Value→Shared→Prop}(hh:A1.handled=none)(k:∀ h',(∀ b o,s1.heap.get? b=some o→h'.get? b=some o)→Q none { s1 with heap:=h' }):
    wpAny (model prog w) A1 (newExc (.type "StopIteration") []>>=fun e=>(raiseNew e:Sem α)) Q1 (StopE prog w A Q) s1:=by
  refine wpAny_bind ?_
  simp only [newExc,newTuple]
  refine wpAny_bind (wpAny_newObj_type ?_ (by size_fits))
  refine wpAny_bind (m:=firstArgMember _ _) (wpAny_of_eq (a:=Value.none) (by first | rfl | (simp only [firstArgMember]; rfl)) ?_)
  refine wpAny_newObj_type ?_ (by size_fits)
  simp only [raiseNew]
  refine wpAny_bind (wpAny_handled ?_)
  rw [hh]
  refine wpAny_bind (wpAny_pure (wpAny_throw ⟨⟨_,Heap.get?_push_size _ rfl,rfl⟩,k _ fun b o e=>Heap.get?_push_of_some _ (Heap.get?_push_of_some _ e)⟩))
variable {a I:Addr}{o:Obj}{es:Array (Int×Value)}{ep:Nat}{t:SetTable}
theorem setNext_plain {slot given:Nat}{Q:Option (Value×Nat)→Shared→Prop}(bt:w.params.followText "set-order" = false)(hd:o.data=.set es ep t)(hf:t.fits es.size=true)(hl:t.led=true)(pl:(!t.plain && decide (es.size > 1))=false)(ha:s.heap.get? a=some o)
    (k:Q (match es[SetTable.below t.place slot]?,t.place[SetTable.below t.place slot]? with | some (_,x),some j=>some (x,j+1) | _,_=>none) s):wpAny (model prog w) A (setNext a slot given ep) Q E s:=by
  unfold setNext
  refine wpAny_bind (wpAny_setState_of ha hd hf ?_)
  dsimp only
  unfold setsByText
  refine wpAny_bind (wpAny_bind (wpAny_askSetting (wpAny_pure ?_)))
  show wpAny _ _ (if w.params.followText "set-order" = true then _ else _) _ _ _
  rw [bt,if_neg (by decide)]
  show wpAny _ _ (if (!t.plain && decide (es.size > 1))=true then _ else _) _ _ _
  rw [pl,if_neg (by decide)]
  refine wpAny_bind ?_
  show wpAny _ _ (if (!t.led && !es.isEmpty)=true then _ else _) _ _ _
  rw [hl,if_neg (by simp)]
  exact wpAny_pure (wpAny_pure k)
theorem setNext_text {slot given:Nat}{Q:Option (Value×Nat)→Shared→Prop}(bt:w.params.followText "set-order" = true)(hd:o.data=.set es ep t)(hf:t.fits es.size=true)(ha:s.heap.get? a=some o)
    (k:Q (((pickOrder (w.params.setOrder a ep) es)[given]?).map fun e=>(e.2,slot)) s):wpAny (model prog w) A (setNext a slot given ep) Q E s:=by
  unfold setNext
  refine wpAny_bind (wpAny_setState_of ha hd hf ?_)
  dsimp only
  unfold setsByText
  refine wpAny_bind (wpAny_bind (wpAny_askSetting (wpAny_pure ?_)))
  show wpAny _ _ (if w.params.followText "set-order" = true then _ else _) _ _ _
  rw [bt,if_pos rfl]
  rw [if_neg (by simp)]
  unfold setWalk setsByText
  refine wpAny_bind (wpAny_bind (wpAny_setState_of ha hd hf ?_))
  dsimp only
  refine wpAny_bind (wpAny_bind (wpAny_askSetting (wpAny_pure ?_)))
  show wpAny _ _ (if w.params.followText "set-order" = true then _ else _) _ _ _
  rw [bt,if_pos rfl]
  exact wpAny_bind (wpAny_askSetting (wpAny_pure (wpAny_pure k)))
theorem next_plain {i:Nat}{first:Value}{Q:Option Value→Shared→Prop}(bt:w.params.followText "set-order" = false)(hd:o.data=.set es ep t)(hf:t.fits es.size=true)(R:Rise t.place)(hl:t.led=true)(pl:(!t.plain && decide (es.size > 1))=false)
    (ha:s.heap.get? a=some o) (ne:I≠a) (ef:first=.int (if i=0 then 0 else ((t.place.getD (i - 1) 0+1:Nat):Int)) 0) (hI:s.heap.get? I=some (itO first i a es.size ep)) (hi:i < es.size)
    (k:∀ h' e,es[i]?=some e→Heap.SameBut I s.heap h'→h'.get? I=some (itO (.int ((t.place.getD i 0+1:Nat):Int) 0) ((i:Int)+1) a es.size ep)→Q (some e.2) { s with heap:=h' }):
    wpAny (model prog w) A (pyNext (.ref I)) Q E s:=by
  have ps:t.place.size=es.size:=by
    simp only [SetTable.fits,Bool.and_eq_true,beq_iff_eq] at hf
    exact hf.1
  refine next_head hI ?_
  show wpAny _ _ (fieldsOf (.ref I)>>=_) _ _ s
  refine wpAny_bind (wpAny_fieldsOf hI rfl ?_)
  dsimp only
  refine wpAny_bind (wpAny_setEntries_of ha hd hf ?_)
  rw [if_neg (by simp),ef]
  dsimp only
  refine wpAny_bind (setNext_plain bt hd hf hl pl ha ?_)
  have eb:SetTable.below t.place (Int.toNat (if i=0 then 0 else ((t.place.getD (i - 1) 0+1:Nat):Int)))=i:=by
    by_cases z:i=0
    · rw [if_pos z,z]
      exact below_zero R
    · rw [if_neg z,Int.toNat_natCast,below_next R (by omega)]
      omega
  rw [eb,Array.getElem?_eq_getElem hi,Array.getElem?_eq_getElem (by omega)]
  have ep':t.place[i]'(by omega)=t.place.getD i 0:=by simp [show i < t.place.size by omega]
  rw [ep']
  have g0:es[i]?=some es[i]:=Array.getElem?_eq_getElem hi
  generalize es[i]=e0 at*
  obtain ⟨h0,v0⟩:=e0
  dsimp only
  have u1:(s.heap.update I (Obj.mapFields (·.setIfInBounds 0 (rawInt ((t.place.getD i 0+1:Nat):Int))))).get? I=some (itO (.int ((t.place.getD i 0+1:Nat):Int) 0) i a es.size ep):=Heap.get?_update_self _ hI rfl
  refine wpAny_bind (wpAny_setField hI rfl (by simp) (wpAny_bind (wpAny_setField (s:={ s with heap:=s.heap.update I _ }) u1 rfl (by simp) (wpAny_pure ⟨v0,rfl,k _ _ g0 ?_ ?_⟩))))
  · exact (Heap.SameBut.update ..).trans (Heap.SameBut.update ..)
  · exact Heap.get?_update_self _ u1 rfl
theorem next_none {i:Nat}{fi:Int}{tk:Tok}{Q:Option Value→Shared→Prop}(hh:A.handled=none)(hd:o.data=.set es ep t)(hf:t.fits es.size=true)(ha:s.heap.get? a=some o)(hI:s.heap.get? I=some (itO (.int fi tk) i a es.size ep))
    (hn:∀ (Q':Option (Value×Nat)→Shared→Prop) (E':Value→Shared→Prop),Q' none s→wpAny (model prog w) A.in1 (setNext a fi.toNat ((i:Int)).toNat ((ep:Int)).toNat) Q' E' s)
    (k:∀ h',(∀ b o,b≠I→s.heap.get? b=some o→h'.get? b=some o)→Q none { s with heap:=h' }):wpAny (model prog w) A (pyNext (.ref I)) Q E s:=by
  refine next_head hI ?_
  show wpAny _ _ (fieldsOf (.ref I)>>=_) _ _ s
  refine wpAny_bind (wpAny_fieldsOf hI rfl ?_)
  dsimp only
  refine wpAny_bind (wpAny_setEntries_of ha hd hf ?_)
  rw [if_neg (by simp)]
  refine wpAny_bind (hn _ _ ?_)
  dsimp only
  refine wpAny_bind (wpAny_setField hI rfl (by simp) ?_)
  exact raise_stop hh fun h' e=>k h' fun b o ne q=>e b o (((Heap.SameBut.update _ I _).2 b ne).trans q)
theorem next_text {i:Nat}{Q:Option Value→Shared→Prop}(bt:w.params.followText "set-order" = true)(hd:o.data=.set es ep t)(hf:t.fits es.size=true)(ha:s.heap.get? a=some o)(hI:s.heap.get? I=some (itO (.int 0 0) i a es.size ep)){e:Int×Value}
    (he:(pickOrder (w.params.setOrder a ep) es)[i]?=some e)
    (k:∀ h',Heap.SameBut I s.heap h'→h'.get? I=some (itO (.int 0 0) ((i:Int)+1) a es.size ep)→Q (some e.2) { s with heap:=h' }):
    wpAny (model prog w) A (pyNext (.ref I)) Q E s:=by
  refine next_head hI ?_
  show wpAny _ _ (fieldsOf (.ref I)>>=_) _ _ s
  refine wpAny_bind (wpAny_fieldsOf hI rfl ?_)
  dsimp only
  refine wpAny_bind (wpAny_setEntries_of ha hd hf ?_)
  rw [if_neg (by simp)]
  refine wpAny_bind (setNext_text bt hd hf ha ?_)
  rw [show ((i:Int)).toNat=i from Int.toNat_natCast i,show ((ep:Int)).toNat=ep from Int.toNat_natCast ep,he]
  dsimp only [Option.map_some]
  have u1:(s.heap.update I (Obj.mapFields (·.setIfInBounds 0 (rawInt ((Int.toNat 0:Nat):Int))))).get? I=some (itO (.int 0 0) i a es.size ep):=Heap.get?_update_self _ hI rfl
  refine wpAny_bind (wpAny_setField hI rfl (by simp) (wpAny_bind (wpAny_setField (s:={ s with heap:=s.heap.update I _ }) u1 rfl (by simp) (wpAny_pure ⟨e.2,rfl,k _ ?_ ?_⟩))))
  · exact (Heap.SameBut.update ..).trans (Heap.SameBut.update ..)
  · exact Heap.get?_update_self _ u1 rfl
theorem next_drawn {i:Nat}{T:Addr}{oT:Obj}{pls:Array Value}{m:Nat}{Q:Option Value→Shared→Prop}(hd:o.data=.set es ep t)(hf:t.fits es.size=true)(ha:s.heap.get? a=some o)(hI:s.heap.get? I=some (itO (.ref T) i a es.size ep))(hT:s.heap.get? T=some oT)(hp:oT.data=.seq pls m)
    {j:Nat} {e:Int×Value} (hj:pls[i]?=some (.int j 0)) (he:es[j]?=some e)
    (k:∀ h',Heap.SameBut I s.heap h'→h'.get? I=some (itO (.ref T) ((i:Int)+1) a es.size ep)→Q (some e.2) { s with heap:=h' }):
    wpAny (model prog w) A (pyNext (.ref I)) Q E s:=by
  refine next_head hI ?_
  show wpAny _ _ (fieldsOf (.ref I)>>=_) _ _ s
  refine wpAny_bind (wpAny_fieldsOf hI rfl ?_)
  dsimp only
  refine wpAny_bind (wpAny_setEntries_of ha hd hf ?_)
  rw [if_neg (by simp)]
  refine wpAny_bind (wpAny_seqItems hT hp ?_)
  dsimp only
  rw [Int.toNat_natCast,hj]
  dsimp only
  unfold setNextDrawn
  refine wpAny_bind (wpAny_bind (wpAny_setState_of ha hd hf ?_))
  dsimp only
  rw [if_neg (by simp),Int.toNat_natCast,he]
  exact wpAny_pure (wpAny_bind (wpAny_setField hI rfl (by simp) (wpAny_pure ⟨e.2,rfl,k _ (Heap.SameBut.update ..) (Heap.get?_update_self _ hI rfl)⟩)))
theorem end_drawn {i:Nat}{T:Addr}{oT:Obj}{pls:Array Value}{m:Nat}{Q:Option Value→Shared→Prop}(hh:A.handled=none)(hd:o.data=.set es ep t)(hf:t.fits es.size=true)(ha:s.heap.get? a=some o)(hI:s.heap.get? I=some (itO (.ref T) i a es.size ep))(hT:s.heap.get? T=some oT)(hp:oT.data=.seq pls m)
    (hj:pls[i]?=none) (k:∀ h',(∀ b o,b≠I→s.heap.get? b=some o→h'.get? b=some o)→Q none { s with heap:=h' }):wpAny (model prog w) A (pyNext (.ref I)) Q E s:=by
  refine next_head hI ?_
  show wpAny _ _ (fieldsOf (.ref I)>>=_) _ _ s
  refine wpAny_bind (wpAny_fieldsOf hI rfl ?_)
  dsimp only
  refine wpAny_bind (wpAny_setEntries_of ha hd hf ?_)
  rw [if_neg (by simp)]
  refine wpAny_bind (wpAny_seqItems hT hp ?_)
  dsimp only
  rw [Int.toNat_natCast,hj]
  dsimp only
  have u1:(s.heap.update I (Obj.mapFields (·.setIfInBounds 0 (rawInt 0)))).get? I=some (itO (.int 0 0) i a es.size ep):=Heap.get?_update_self _ hI rfl
  refine wpAny_bind (wpAny_setField hI rfl (by simp) (wpAny_bind (wpAny_setField (s:={ s with heap:=s.heap.update I _ }) u1 rfl (by simp) ?_)))
  exact raise_stop hh fun h' e=>k h' fun b o ne q=>e b o ((((Heap.SameBut.update _ I _).trans (Heap.SameBut.update _ I _)).2 b ne).trans q)
end
end Se
namespace Se
open PySem PySem.Spec
namespace F
theorem slot_si_iter:Slot "set_iterator" "__iter__" "set_iterator.__iter__" :=
  .of (owner := "set_iterator") (n := "__iter__") (by rw [typeLookup_type,builtinLookup_eq_fast]; kernel_rfl) (by decide +kernel) (by decide +kernel) (by decide +kernel)
    (by first | exact .inl (by decide +kernel) | exact .inr (by decide +kernel)) (by rw [isSubtype_type]; kernel_rfl)
theorem entry_si_iter:entryFor table "set_iterator.__iter__" = some Builtin.«dict_keyiterator.__iter__»:=
  entryFor_alias (id' := "dict_keyiterator.__iter__") (by kernel_rfl) rfl (by decide +kernel) (by kernel_rfl)
theorem args_si_iter (a:Value):argsOk "set_iterator.__iter__" ⟨[a],[]⟩:=by unfold argsOk; kernel_rfl
end F
section
variable {prog:Program}{w:World}{A:Around}{E:Value→Shared→Prop}{s:Shared}
theorem size_push'' (h:Heap)(o:Obj):(h.push o).objs.size=h.objs.size+1:=Heap.size_push _ _
noncomputable abbrev tO (ys:List Nat):Obj:={ cls:=.type "tuple",data:=.seq (ys.map fun (i:Nat)=>rawInt i).toArray }
noncomputable def St (I a:Addr)(n ep:Nat)(first:Nat→Value)(Ls:List (Addr×Obj))(i:Nat)(s:Shared):Prop:=s.heap.get? I=some (itO (first i) i a n ep)∧∀ p∈Ls,s.heap.get? p.1=some p.2
theorem mk_walk {I a:Addr}{n ep:Nat}{first:Nat→Value}{Ls:List (Addr×Obj)}{vs:List Value}(hI:I∉Ls.map (·.1))(hn:vs.length=n)
    (item:∀ i (s:Shared) (Q:Option Value→Shared→Prop) (E:Value→Shared→Prop),i < n→St I a n ep first Ls i s→(∀ h' v,vs[i]?=some v→Heap.SameBut I s.heap h'→h'.get? I=some (itO (first (i+1)) ((i:Int)+1) a n ep)→Q (some v) { s with heap:=h' })→wpAny (model prog w) A (pyNext (.ref I)) Q E s)
    (done:∀ (s:Shared) (Q:Option Value→Shared→Prop) (E:Value→Shared→Prop),St I a n ep first Ls n s→(∀ h',(∀ b o,b≠I→s.heap.get? b=some o→h'.get? b=some o)→Q none { s with heap:=h' })→wpAny (model prog w) A (pyNext (.ref I)) Q E s):
    WalksS prog w A I (I::Ls.map (·.1)) [I] Eq n (fun i v=>vs[i]?=some v) (St I a n ep first Ls) where
  sub:=fun b hb=>by
    rw [List.mem_singleton] at hb
    rw [hb]; exact List.mem_cons_self
  grefl:=fun _=>rfl
  gtrans:=fun _ _ _ h1 h2=>h1.trans h2
  frame:=fun i s h' tk st _ k=>⟨k I List.mem_cons_self _ st.1,fun p hp=>k p.1 (List.mem_cons_of_mem _ (List.mem_map.mpr ⟨p,hp,rfl⟩)) _ (st.2 p hp)⟩
  item:=fun i s Q E hi st k=>item i s Q E hi st fun h' v hv sb e=>k v _ hv ⟨e,fun p hp=>by
    have ne:p.1≠I:=fun z=>hI (z ▸ List.mem_map.mpr ⟨p,hp,rfl⟩)
    exact (sb.2 p.1 ne).trans (st.2 p hp)⟩ ⟨fun b o hb e2=>(sb.2 b fun z=>hb (by rw [z]; exact List.mem_singleton.mpr rfl)).trans e2,rfl,rfl,rfl,Nat.le_refl _⟩
  done:=fun s Q E st k=>done s Q E st fun h' q=>k _ ⟨fun b o hb e2=>q b o (fun z=>hb (by rw [z]; exact List.mem_singleton.mpr rfl)) e2,rfl,rfl,rfl,Nat.le_refl _⟩
  self:=fun i s Q E st k=>by
    have hT:s.TypeIs (.ref I) "set_iterator" := ⟨_,st.1,rfl⟩
    refine wpAny_pyIter_slot hT F.slot_si_iter (wpAny_call_entry F.slot_si_iter hT F.entry_si_iter ?_ (F.args_si_iter _))
    exact wpAny_pure ⟨_,rfl,"set_iterator",_,hT,F.slot_si_next.lookup,k⟩
structure Wk (prog:Program)(w:World)(A:Around)(s:Shared)(a lo I:Addr)(vs:List Value):Prop where
  ex:∃ (fp:List Addr) (S:Nat→Shared→Prop),WalksS prog w A I fp [I] Eq vs.length (fun i v=>vs[i]?=some v) S∧S 0 s∧(∀ b∈fp,b < s.heap.objs.size)∧∀ b∈fp,b=a∨lo≤b
theorem iter_set {a:Addr}{ks:List Int}{A2:Around}(hh:A2.handled=none)(hS:SetP s.heap a (ledOf w) ks){Q:Value→Shared→Prop}
    (k:∀ (I:Addr) (vs:List Value) (h':Heap) dr,s.heap.objs.size≤I→(∀ b o,s.heap.get? b=some o→h'.get? b=some o)→(∃ ns,PyProof.Rows.IntsAre vs ns∧ns.Perm ks)→Wk prog w A2 { s with heap:=h',drawn:=dr } a s.heap.objs.size I vs→Q (.ref I) { s with heap:=h',drawn:=dr }):
    wpAny (model prog w) A (pyIter (.ref a)) Q E s:=by
  obtain ⟨o,ha,hx,es,ep,t,hd,k1,k2,k3,hf,R,hl⟩:=hS
  have hT:s.TypeIs (.ref a) "set" := ⟨_,ha,hx.1⟩
  refine wpAny_pyIter_slot hT PySem.F.slot_set_iter (wpAny_call_entry PySem.F.slot_set_iter hT F.entry_set_iter ?_ (PySem.F.args_set_iter_1 _))
  unfold Builtin.«frozenset.__iter__»
  show wpAny _ _ (Builtin.Frozenset.sizeOf a>>=_) _ _ s
  unfold Builtin.Frozenset.sizeOf
  refine wpAny_bind (wpAny_bind (wpAny_setEntries_of ha hd hf (wpAny_pure ?_)))
  unfold setDrawn setsByText
  refine wpAny_bind (wpAny_bind (wpAny_setState_of ha hd hf ?_))
  dsimp only
  refine wpAny_bind (wpAny_bind (wpAny_askSetting (wpAny_pure ?_)))
  refine wpAny_pure ?_
  have aS:a < s.heap.objs.size:=Heap.lt_size ha
  have vals:∀ l:List (Int×Value),(∀ e∈l,EK e)→PyProof.Rows.IntsAre (l.map (·.2)) (l.map kof):=fun l=>by
    induction l with
    | nil=>intro _; exact .nil
    | cons e l ih=>
      intro h
      obtain ⟨x,tk,rfl⟩:=h e List.mem_cons_self
      exact .cons x tk (ih fun z hz=>h z (List.mem_cons_of_mem _ hz))
  -- the walk that begins with a number
  have plainW:∀ (first:Nat→Value) (vs:List Value) (hv:vs.length=es.size) (f0:first 0=rawInt 0) (hns:∃ ns,PyProof.Rows.IntsAre vs ns∧ns.Perm ks)
      (item:∀ i (s1:Shared) (Q:Option Value→Shared→Prop) (E:Value→Shared→Prop),i < es.size→St s.heap.objs.size a es.size ep first [(a,o)] i s1→(∀ h' v,vs[i]?=some v→Heap.SameBut s.heap.objs.size s1.heap h'→h'.get? s.heap.objs.size=some (itO (first (i+1)) ((i:Int)+1) a es.size ep)→Q (some v) { s1 with heap:=h' })→wpAny (model prog w) A2 (pyNext (.ref s.heap.objs.size)) Q E s1)
      (done:∀ (s1:Shared) (Q:Option Value→Shared→Prop) (E:Value→Shared→Prop),St s.heap.objs.size a es.size ep first [(a,o)] es.size s1→(∀ h',(∀ b o,b≠s.heap.objs.size→s1.heap.get? b=some o→h'.get? b=some o)→Q none { s1 with heap:=h' })→wpAny (model prog w) A2 (pyNext (.ref s.heap.objs.size)) Q E s1),
      wpAny (model prog w) A.in1 (do
        let ep ←setEpoch a
        let it ←newFields "set_iterator" [rawInt 0,rawInt 0,Value.ref a,rawInt ↑es.size,rawInt ↑ep]
        ret it) (fun fin s'=>∃ v,fin=Fin.done (Flow.ret v)∧∃ T' r,s'.TypeIs v T'∧typeLookup (Value.type T') (Str.ofString "__next__")=pure (some r)∧Q v s') E s:=by
    intro first vs hv f0 hns item done
    refine wpAny_bind (wpAny_setEpoch_of ha hd hf ?_)
    refine wpAny_bind (wpAny_newObj_type (wpAny_pure ⟨_,rfl,"set_iterator",_,⟨_,Heap.get?_push_size _ rfl,rfl⟩,F.slot_si_next.lookup,?_⟩))
    refine k s.heap.objs.size vs _ s.drawn (Nat.le_refl _) (fun b o e=>Heap.get?_push_of_some _ e) hns ⟨⟨s.heap.objs.size::([(a,o)]:List (Addr×Obj)).map (·.1),St s.heap.objs.size a es.size ep first [(a,o)],?_,⟨?_,?_⟩,?_,?_⟩⟩
    · rw [hv]
      exact mk_walk (first:=first) (Ls:=[(a,o)]) (by simp; exact Nat.ne_of_gt aS) hv item done
    · rw [f0]
      exact Heap.get?_push_size _ rfl
    · intro p hp
      rw [List.mem_singleton.mp hp]
      exact Heap.get?_push_of_some _ ha
    · intro b hb
      rw [size_push'']
      simp at hb
      rcases hb with rfl | rfl
      · exact Nat.lt_succ_self _
      · exact Nat.lt_succ_of_lt aS
    · intro b hb
      simp at hb
      rcases hb with rfl | rfl
      · exact .inr (Nat.le_refl _)
      · exact .inl rfl
  show wpAny _ _ (if (!w.params.followText "set-order" && (!t.plain && decide (es.size > 1)))=true then _ else _) _ _ _
  cases bt:w.params.followText "set-order" with
  | true=>
    rw [if_neg (by simp)]
    refine wpAny_bind (wpAny_pure ?_)
    have pp:=pick_perm (w.params.setOrder a ep) es
    have sz:(pickOrder (w.params.setOrder a ep) es).size=es.size:=by rw [←Array.length_toList,pp.length_eq,Array.length_toList]
    refine plainW (fun _=>rawInt 0) ((pickOrder (w.params.setOrder a ep) es).toList.map (·.2)) (by rw [List.length_map,Array.length_toList,sz]) rfl ⟨_,vals _ fun e he=>k1 e (pp.mem_iff.mp he),(pp.map kof).trans k2⟩ ?_ ?_
    · intro i s1 Q1 E1 hi st kk
      have he:(pickOrder (w.params.setOrder a ep) es)[i]?=some (pickOrder (w.params.setOrder a ep) es)[i]:=Array.getElem?_eq_getElem (by rw [sz]; exact hi)
      refine next_text bt hd hf (st.2 (a,o) (List.mem_singleton.mpr rfl)) st.1 he fun h' sb e=>kk h' _ ?_ sb e
      rw [List.getElem?_map,Array.getElem?_toList,he]
      rfl
    · intro s1 Q1 E1 st kk
      refine next_none hh hd hf (st.2 (a,o) (List.mem_singleton.mpr rfl)) st.1 (fun Q' E' q=>setNext_text bt hd hf (st.2 (a,o) (List.mem_singleton.mpr rfl)) ?_) kk
      rw [show ((es.size:Int)).toNat=es.size from Int.toNat_natCast _,show ((ep:Int)).toNat=ep from Int.toNat_natCast ep,Array.getElem?_eq_none (by rw [sz]; exact Nat.le_refl _)]
      exact q
  | false=>
    have led:t.led=true:=by rw [hl]; unfold ledOf; rw [bt]; rfl
    cases pl:(!t.plain && decide (es.size > 1)) with
    | false=>
      rw [if_neg (by simp)]
      refine wpAny_bind (wpAny_pure ?_)
      refine plainW (fun i=>.int (if i=0 then 0 else ((t.place.getD (i - 1) 0+1:Nat):Int)) 0) (es.toList.map (·.2)) (by rw [List.length_map,Array.length_toList]) rfl ⟨_,vals _ k1,k2⟩ ?_ ?_
      · intro i s1 Q1 E1 hi st kk
        refine next_plain bt hd hf R led pl (st.2 (a,o) (List.mem_singleton.mpr rfl)) (Nat.ne_of_gt aS) rfl st.1 hi fun h' e he sb q=>kk h' _ ?_ sb ?_
        · rw [List.getElem?_map,Array.getElem?_toList,he]
          rfl
        · exact q
      · intro s1 Q1 E1 st kk
        refine next_none hh hd hf (st.2 (a,o) (List.mem_singleton.mpr rfl)) st.1 (fun Q' E' q=>setNext_plain bt hd hf led pl (st.2 (a,o) (List.mem_singleton.mpr rfl)) ?_) kk
        have ps:t.place.size=es.size:=by
          simp only [SetTable.fits,Bool.and_eq_true,beq_iff_eq] at hf
          exact hf.1
        have eb:SetTable.below t.place (Int.toNat (if es.size=0 then 0 else ((t.place.getD (es.size - 1) 0+1:Nat):Int)))=es.size:=by
          by_cases z:es.size=0
          · rw [if_pos z,z]
            exact below_zero R
          · rw [if_neg z,Int.toNat_natCast,below_next R (by lia)]
            lia
        rw [eb,Array.getElem?_eq_none (Nat.le_refl _)]
        exact q
    | true=>
      rw [if_pos (by simp)]
      refine wpAny_bind (draw_perm es.size (List.range es.size) s (by simp) fun ys dr hp=>?_)
      have yl:ys.length=es.size:=by rw [hp.length_eq,List.length_range]
      have zl:(ys.map fun (i:Nat)=>rawInt i).length≤sizeLine:=by rw [List.length_map,yl]; exact fits_of_scanBound k3
      refine wpAny_bind (wpAny_newTuple ?_ zl)
      have ha1:(s.heap.push (tO ys)).get? a=some o:=Heap.get?_push_of_some _ ha
      have hT1:(s.heap.push (tO ys)).get? s.heap.objs.size=some (tO ys):=Heap.get?_push_size _ rfl
      have zs:(s.heap.push (tO ys)).objs.size=s.heap.objs.size+1:=size_push'' _ _
      refine wpAny_bind (wpAny_setEpoch_of (s:={ s with heap:=s.heap.push (tO ys),drawn:=dr }) ha1 hd hf ?_)
      refine wpAny_bind (wpAny_newObj_type (wpAny_pure ⟨_,rfl,"set_iterator",_,⟨_,Heap.get?_push_size _ rfl,rfl⟩,F.slot_si_next.lookup,?_⟩))
      have get:∀ j∈ys,∃ e,es[j]?=some e:=fun j hj=>⟨_,Array.getElem?_eq_getElem (List.mem_range.mp (hp.mem_iff.mp hj))⟩
      have eL:ys.filterMap (fun j=>es[j]?)=ys.map fun j=>(es[j]?).getD (0,.none):=by
        clear hp yl zl hT1 ha1 zs
        induction ys with
        | nil=>rfl
        | cons j ys ih=>
          obtain ⟨e,he⟩:=get j List.mem_cons_self
          rw [List.filterMap_cons_some he,List.map_cons,ih fun i hi=>get i (List.mem_cons_of_mem _ hi),he]
          rfl
      have pE:(ys.map fun j=>(es[j]?).getD (0,.none)).Perm es.toList:=by
        rw [←eL]
        refine (hp.filterMap _).trans ?_
        rw [filterMap_getElem?_range]
      generalize hB:(ys.map fun j=>(es[j]?).getD (0,.none))=B at*
      have bl:B.length=es.size:=by rw [←hB,List.length_map]; exact yl
      rw [zs]
      refine k (s.heap.objs.size+1) (B.map (·.2)) _ dr (Nat.le_succ _) (fun b o e=>Heap.get?_push_of_some _ (Heap.get?_push_of_some _ e)) ⟨_,vals _ fun e he=>k1 e (pE.mem_iff.mp he),(pE.map kof).trans k2⟩
        ⟨⟨(s.heap.objs.size+1)::([(a,o),(s.heap.objs.size,tO ys)]:List (Addr×Obj)).map (·.1),St (s.heap.objs.size+1) a es.size ep (fun _=>.ref s.heap.objs.size) [(a,o),(s.heap.objs.size,tO ys)],?_,⟨?_,?_⟩,?_,?_⟩⟩
      · have vl:(B.map (·.2)).length=es.size:=by rw [List.length_map]; exact bl
        rw [vl]
        refine mk_walk (first:=fun _=>.ref s.heap.objs.size) (Ls:=[(a,o),(s.heap.objs.size,tO ys)]) ?_ vl ?_ ?_
        · simp only [List.map_cons,List.map_nil,List.mem_cons,List.not_mem_nil,or_false,not_or]
          exact ⟨Nat.ne_of_gt (Nat.lt_succ_of_lt aS),Nat.ne_of_gt (Nat.lt_succ_self _)⟩
        · intro i s1 Q1 E1 hi st kk
          have hy:ys[i]?=some (ys[i]'(by lia)):=List.getElem?_eq_getElem (by lia)
          generalize ys[i]'(by lia)=j at hy
          obtain ⟨e,he⟩:=get j (List.mem_of_getElem? hy)
          refine next_drawn hd hf (st.2 (a,o) (by simp)) st.1 (st.2 (s.heap.objs.size,tO ys) (by simp)) rfl (j:=j) ?_ he fun h' sb q=>kk h' _ ?_ sb q
          · rw [List.getElem?_toArray,List.getElem?_map,hy]
            rfl
          · rw [←hB,List.map_map,List.getElem?_map,hy]
            show some ((es[j]?).getD (0,.none)).2=_
            rw [he]
            rfl
        · intro s1 Q1 E1 st kk
          refine end_drawn hh hd hf (st.2 (a,o) (by simp)) st.1 (st.2 (s.heap.objs.size,tO ys) (by simp)) rfl ?_ kk
          rw [List.getElem?_toArray]
          exact List.getElem?_eq_none (by rw [List.length_map]; lia)
      · rw [←zs]
        exact Heap.get?_push_size _ rfl
      · intro p hp
        have hp:p=(a,o)∨p=(s.heap.objs.size,tO ys):=by simpa using hp
        rcases hp with rfl | rfl
        · exact Heap.get?_push_of_some _ ha1
        · exact Heap.get?_push_of_some _ hT1
      · intro b hb
        rw [size_push'',zs]
        have hb:b=s.heap.objs.size+1∨b=a∨b=s.heap.objs.size:=by simpa using hb
        rcases hb with rfl | rfl | rfl
        · exact Nat.lt_succ_self _
        · exact Nat.lt_succ_of_lt (Nat.lt_succ_of_lt aS)
        · exact Nat.lt_succ_of_lt (Nat.lt_succ_self _)
      · intro b hb
        have hb:b=s.heap.objs.size+1∨b=a∨b=s.heap.objs.size:=by simpa using hb
        rcases hb with rfl | rfl | rfl
        · exact .inr (Nat.le_succ _)
        · exact .inl rfl
        · exact .inr (Nat.le_refl _)
end
end Se
namespace Se
open PySem PySem.Spec
section
variable {prog:Program}{w:World}{A:Around}{E:Value→Shared→Prop}{s:Shared}
theorem items_eq {vs:List Value}{acc:Array Value}(h:ItemsOf (fun i v=>vs[i]?=some v) acc vs.length):acc.toList=vs:=by
  refine List.ext_getElem? fun i=>?_
  rw [Array.getElem?_toList]
  by_cases hi:i < vs.length
  · have ha:acc[i]?=some (acc[i]'(by rw [h.1]; exact hi)):=Array.getElem?_eq_getElem _
    rw [h.2 i _ ha,ha]
  · rw [List.getElem?_eq_none (by omega),Array.getElem?_eq_none (by rw [h.1]; omega)]
theorem len_ints:∀ {vs:List Value} {ns:List Int},PyProof.Rows.IntsAre vs ns→vs.length=ns.length
  | _,_,.nil=>rfl
  | _,_,.cons _ _ h=>by rw [List.length_cons,List.length_cons,len_ints h]
noncomputable abbrev eL0:Obj:={ cls:=.type "list",data:=.seq ([]:List Value).toArray }
structure Stays (s s':Shared):Prop where
  heap:∀ b o,s.heap.get? b=some o→s'.heap.get? b=some o
  gens:s'.gens=s.gens
  os:s'.os=s.os
  size:s.heap.objs.size≤s'.heap.objs.size
theorem collect_set {a:Addr}{ks:List Int}(hh:A.handled=none)(hS:SetP s.heap a (ledOf w) ks){Q:List Value→Shared→Prop}
    (k:∀ vs s',Stays s s'→(∃ ns,PyProof.Rows.IntsAre vs ns∧ns.Perm ks)→Q vs s'):wpAny (model prog w) A (collect (.ref a)) Q E s:=by
  have aS:a < s.heap.objs.size:=let ⟨_,ha,_⟩:=hS; Heap.lt_size ha
  unfold collect
  refine wpAny_bind (wpAny_runValue (codeAny_builtin PySem.F.entry_proto_collect ?_))
  rw [Around.under_plainId PySem.F.plain_proto_collect _]
  show wpAny _ A.in1 (newList []>>=fun l=>again (.builtin "list.__iadd__" ⟨[l,.ref a],[]⟩)) _ _ s
  refine wpAny_bind (wpAny_newObj_type ?_)
  refine wpAny_pure ⟨plainId_quiet PySem.F.plain_list_iadd _,codeAny_builtin PySem.F.entry_list_iadd ?_⟩
  rw [Around.under_plainId PySem.F.plain_list_iadd _]
  show wpAny _ A.in1 (Builtin.List.listExtendWith (.ref s.heap.objs.size) (.ref a) (.ref s.heap.objs.size)) _ _ _
  have hS1:SetP (s.heap.push eL0) a (ledOf w) ks:=by
    obtain ⟨o,ho,r⟩:=hS
    exact ⟨o,Heap.get?_push_of_some _ ho,r⟩
  have g1:(s.heap.push eL0).get? s.heap.objs.size=some eL0:=Heap.get?_push_size _ rfl
  have hT1:Shared.TypeIs { s with heap:=s.heap.push eL0 } (.ref a) "set" := by
    obtain ⟨o,ho,hx,_⟩:=hS1
    exact ⟨o,ho,hx.1⟩
  have nS:Builtin.List.listSameRef (.ref s.heap.objs.size) (.ref a)=false:=by
    simp [Builtin.List.listSameRef]
    exact Nat.ne_of_gt aS
  unfold Builtin.List.listExtendWith
  refine wpAny_bind (wpAny_typeOf hT1 ?_)
  rw [if_neg (by rw [nS]; decide)]
  refine wpAny_bind (iter_set (s:={ s with heap:=s.heap.push eL0 }) (A2:=A.in1) hh hS1 fun I vs h' dr hI kp hns W=>?_)
  refine wpAny_bind (wpAny_holding ?_)
  have hT2:Shared.TypeIs { s with heap:=h',drawn:=dr } (.ref a) "set" := by
    obtain ⟨o,ho,hx,_⟩:=hS1
    exact ⟨o,kp _ _ ho,hx.1⟩
  unfold Builtin.List.listLengthHint
  refine wpAny_bind (wpAny_specialOf hT2 PySem.F.slot_set_len.lookup ?_)
  (generalize hid:("set.__len__" : String)=id0; (fail_if_success (clear hid id0)); wp_delta; rw [show splitId id0=some ("set","__len__") from by subst hid; decide +kernel]; subst hid)
  refine wpAny_bind (wpAny_isInstance (b:=true) hT2 (by rw [isSubtype_type]; kernel_rfl) ?_)
  refine wpAny_bind (wpAny_typeOf hT2 ?_)
  refine wpAny_pure ?_
  rw [if_pos (by decide)]
  refine wpAny_bind (wpAny_rule ?_)
  have g2:h'.get? s.heap.objs.size=some eL0:=kp _ _ g1
  unfold Builtin.List.listTouch
  have z1:(1:Nat)≤sizeLine:=by rw [sizeLine_eq]; decide
  obtain ⟨c1,g3⟩:∃ c,(h'.update s.heap.objs.size (Obj.mapSeq (·.push Value.none))).get? s.heap.objs.size=some (PyProof.Rows.seqObj "list" #[.none] c):=⟨_,PyProof.Rows.get?_update_seq (c := "list") (xs:=#[]) (n:=0) g2 (·.push Value.none)⟩
  refine wpAny_bind (wpAny_bind (PyProof.Rows.listUpdate_at g2 rfl ?_ (Nat.zero_le _) (Nat.le_succ_of_le z1)))
  obtain ⟨c2,g4⟩:∃ c,((h'.update s.heap.objs.size (Obj.mapSeq (·.push Value.none))).update s.heap.objs.size (Obj.mapSeq (·.pop))).get? s.heap.objs.size=some (PyProof.Rows.seqObj "list" #[] c):=⟨_,PyProof.Rows.get?_update_seq g3 (·.pop)⟩
  refine PyProof.Rows.listUpdate_at (s:={ s with heap:=h'.update s.heap.objs.size (Obj.mapSeq (·.push Value.none)),drawn:=dr }) g3 rfl ?_ z1 (Nat.zero_le _)
  obtain ⟨fp,S,W,S0,lt,lo⟩:=W.ex
  have sz:(s.heap.push eL0).objs.size=s.heap.objs.size+1:=size_push'' _ _
  have nf:s.heap.objs.size∉fp:=fun z=>by
    rcases lo _ z with q | q
    · exact absurd q (Nat.ne_of_gt aS)
    · have q:(s.heap.push eL0).objs.size≤s.heap.objs.size:=q
      rw [sz] at q
      exact absurd q (Nat.not_succ_le_self _)
  have S1:=W.frame 0 { s with heap:=h',drawn:=dr } ((h'.update s.heap.objs.size (Obj.mapSeq (·.push Value.none))).update s.heap.objs.size (Obj.mapSeq (·.pop))) s.toks S0 (Nat.le_refl _) fun b hb o e=>by
    have ne:b≠s.heap.objs.size:=fun z=>nf (z ▸ hb)
    exact (((Heap.SameBut.update _ s.heap.objs.size _).trans (Heap.SameBut.update _ s.heap.objs.size _)).2 b ne).trans e
  have hn:vs.length≤sizeLine:=by
    obtain ⟨ns,h1,h2⟩:=hns
    obtain ⟨o,_,_,es,ep,t,_,_,k2,k3,_⟩:=hS
    have e1:vs.length=ns.length:=len_ints h1
    rw [e1,h2.length_eq,←k2.length_eq,List.length_map,Array.length_toList]
    exact fits_of_scanBound k3
  refine wpAny_pure ⟨plainId_quiet PySem.F.plain_extend_loop _,codeAny_extend_loopS W hn s.heap.objs.size nf _ vs.length 0 _ #[] c2 rfl (Nat.zero_le _) S1 g4 (ItemsOf.nil _) fun s' acc' c' hm hS' hacc=>?_⟩
  show wpAny _ A (load s.heap.objs.size>>=_) _ _ s'
  refine wpAny_bind (wpAny_load hS' ?_)
  refine wpAny_pure ?_
  rw [items_eq hacc]
  refine k vs s' ⟨fun b o e=>?_,hm.gens.symm,hm.os,Nat.le_of_lt (Heap.lt_size hS')⟩ hns
  have bl:=Heap.lt_size e
  have ne:b≠s.heap.objs.size:=Nat.ne_of_lt bl
  have nI:b≠I:=fun z=>by
    have q:(s.heap.push eL0).objs.size≤I:=hI
    rw [sz,←z] at q
    exact absurd (Nat.lt_of_lt_of_le (Nat.lt_succ_of_lt bl) q) (Nat.lt_irrefl _)
  refine hm.heap b o (by simp [ne,nI]) ?_
  exact (((Heap.SameBut.update _ s.heap.objs.size _).trans (Heap.SameBut.update _ s.heap.objs.size _)).2 b ne).trans (kp b o (Heap.get?_push_of_some _ e))
end
end Se
namespace Se
open PySem PySem.Spec
section
variable {prog:Program}{w:World}{A:Around}{E:Value→Shared→Prop}{s:Shared}
theorem sorted_set {a:Addr}{ks:List Int}(hh:A.handled=none)(hS:SetP s.heap a (ledOf w) ks)(h64:ks.length < 64){Q:Value→Shared→Prop}
    (k:∀ (L:Addr) (out:Array Value) (e:Nat) (s':Shared) (ns:List Int),s.heap.objs.size≤L→Stays s s'→s'.heap.get? L=some (PyProof.Rows.seqObj "list" out e)→PyProof.Rows.IntsAre out.toList ns→ns.Perm ks→ns.Pairwise (·≤·)→Q (.ref L) s'):
    wpAny (model prog w) A (call (.builtin "sorted") [.ref a]) Q E s:=by
  refine Calls.call_function_entry PyProof.Rows.kind_sorted PyProof.Rows.plain_sorted PyProof.Rows.entry_sorted (PyProof.Rows.args_sorted1 _) ?_
  unfold Builtin.«sorted»
  refine wpAny_bind (m:=checkCount "sorted" 1 1 _) (wpAny_pure ?_)
  refine wpAny_bind (collect_set (by exact hh) hS fun vs s1 st zq=>?_)
  obtain ⟨ns,hi,hp⟩:=zq
  have vl:vs.length < 64:=by rw [len_ints hi,hp.length_eq]; exact h64
  refine wpAny_bind (wpAny_newList ?_)
  have g0:(s1.heap.push (PyProof.Rows.seqObj "list" vs.toArray 0)).get? s1.heap.objs.size=some (PyProof.Rows.seqObj "list" vs.toArray 0):=Heap.get?_push_size _ rfl
  refine wpAny_bind (wpAny_holding (wpAny_call_entry PyProof.Rows.slot_list_sort ⟨_,g0,rfl⟩ PyProof.Rows.entry_list_sort (PyProof.Rows.list_sort_tree g0 hi vl fun out ns' a1 a2 a3=>⟨_,rfl,?_⟩) (PyProof.Rows.args_list_sort _)))
  have sS:=st.size
  obtain ⟨e,at1⟩:=PyProof.Rows.sortedHeap_at (vs:=vs) (out:=out) g0
  refine wpAny_pure ⟨_,rfl,k s1.heap.objs.size out e _ ns' sS ⟨fun b o q=>?_,st.gens,st.os,Nat.le_trans sS (Nat.le_of_lt (Heap.lt_size at1))⟩ at1 a1 (a2.trans hp) a3⟩
  have q1:=st.heap b o q
  have lt:=Heap.lt_size q1
  rw [PyProof.Rows.sortedHeap_old (Nat.ne_of_lt lt) (by rw [size_push'']; exact Nat.lt_succ_of_lt lt)]
  exact Heap.get?_push_of_some _ q1
end
end Se
namespace Se
open PySem PyProof.Rows
noncomputable def kf (kx:Keyed→Int)(xs:Array Keyed)(i:Nat):Int:=((xs[i]?).map kx).getD 0
noncomputable def Up (f:Nat→Int)(m:Nat):Prop:=∀ i j,i < j→j < m→f i < f j
noncomputable def Dn (f:Nat→Int)(m:Nat):Prop:=∀ i j,i < j→j < m→f j < f i
theorem Up.one (f:Nat→Int):Up f 1:=fun i j h1 h2=>by lia
theorem Up.more {f:Nat→Int}{m:Nat}(u:Up f m)(h:m=0∨f (m - 1) < f m):Up f (m+1):=fun i j h1 h2=>by
  by_cases e:j < m
  · exact u i j h1 e
  · have ej:j=m:=by lia
    subst ej
    have h:=h.resolve_left (by lia)
    by_cases e2:i=j - 1
    · rw [e2]; exact h
    · exact Int.lt_trans (u i (j - 1) (by lia) (by lia)) h
theorem Dn.more {f:Nat→Int}{m:Nat}(u:Dn f m)(h:m=0∨f m < f (m - 1)):Dn f (m+1):=fun i j h1 h2=>by
  by_cases e:j < m
  · exact u i j h1 e
  · have ej:j=m:=by lia
    subst ej
    have h:=h.resolve_left (by lia)
    by_cases e2:i=j - 1
    · rw [e2]; exact h
    · exact Int.lt_trans h (u i (j - 1) (by lia) (by lia))
structure TB (kx:Keyed→Int)(kd:SortKind)(a₀:Array Keyed)(z:SortSt):Prop where
  perm:(arrOf z).Perm a₀
  kind:kindOf z=kd
  failed:failedOf z=none
  pend:pendingOf z=#[]
  nd:(a₀.toList.map kx).Nodup
section
variable {kx:Keyed→Int}{kd:SortKind}{a₀:Array Keyed}{z:SortSt}
theorem TB.size (b:TB kx kd a₀ z):(arrOf z).size=a₀.size:=b.perm.size_eq
theorem TB.arr (b:TB kx kd a₀ z){xs:Array Keyed}(p:xs.Perm (arrOf z)):TB kx kd a₀ (setArr z xs):=⟨p.trans b.perm,b.kind,b.failed,b.pend,b.nd⟩
theorem TB.ne (b:TB kx kd a₀ z){i j:Nat}(hi:i < a₀.size)(hj:j < a₀.size)(h:i≠j):kf kx (arrOf z) i≠kf kx (arrOf z) j:=fun e=>by
  have p:=Array.perm_iff_toList_perm.mp b.perm
  have nd:((arrOf z).toList.map kx).Nodup:=(List.Perm.nodup_iff (p.map kx)).mpr b.nd
  have hl:((arrOf z).toList.map kx).length=a₀.size:=by rw [List.length_map,Array.length_toList,b.size]
  have g:∀ k,k < a₀.size→((arrOf z).toList.map kx)[k]?=some (kf kx (arrOf z) k):=fun k hk=>by
    unfold kf
    rw [List.getElem?_map,Array.getElem?_toList,Array.getElem?_eq_getElem (by rw [b.size]; exact hk)]
    rfl
  exact h ((List.getElem?_inj (by rw [hl]; exact hi) nd).mp (by rw [g i hi,g j hj,e]))
theorem kf_mirror {xs:Array Keyed}{m k:Nat}(hm:m≤xs.size)(hk:k < m):kf kx (mirror xs 0 m ((m - 0) / 2)) k=kf kx xs (m - 1 - k):=by
  unfold kf
  rw [getElem?_mirror_all (i:=0) hm k,if_pos (by lia)]
  congr 3
  lia
theorem kf_bubble {xs:Array Keyed}{k l:Nat}(hk:k < xs.size)(hl:l≤k)(i:Nat):kf kx (bubble xs k (k - l)) i=if i=l then kf kx xs k else if l < i∧i≤k then kf kx xs (i - 1) else kf kx xs i:=by
  unfold kf
  rw [getElem?_bubble hk (k - l) (by lia) i,show k - (k - l)=l by lia]
  split
  · rfl
  · split<;>rfl
end
noncomputable abbrev LtT (prog:Program)(w:World)(A:Around)(E:Value→Shared→Prop)(s:Shared)(kx:Keyed→Int)(kd:SortKind)(a₀:Array Keyed):Prop:=
  ∀ (z:SortSt) (i j:Nat) (Q:Option Bool→SortSt→Prop),TB kx kd a₀ z→i < a₀.size→j < a₀.size→Q (some (decide (kf kx (arrOf z) i < kf kx (arrOf z) j))) z→wpS (model prog w) A E s (ltAt' i j) Q z
section
variable {prog:Program}{w:World}{A:Around}{E:Value→Shared→Prop}{s:Shared}{a₀:Array Keyed}{kx:Keyed→Int}{kd:SortKind}
theorem asc_run (L:LtT prog w A E s kx kd a₀){z:SortSt}{a m:Nat}{Q:AscSt→SortSt→Prop}(b:TB kx kd a₀ z)(ha:1≤a)(ham:a≤m)(hm:m≤a₀.size)(u:Up (kf kx (arrOf z)) a)
    (k:∀ n,a≤n→n≤m→Up (kf kx (arrOf z)) n→(n=m∨kf kx (arrOf z) n < kf kx (arrOf z) (n - 1))→Q (none,n) z):wpS (model prog w) A E s (ascLoop a m) Q z:=by
  unfold ascLoop
  refine wpS_forRange (I:=fun x c y=>y=z∧c=(none,x)∧Up (kf kx (arrOf z)) x) ?_ ?_ ⟨rfl,rfl,u⟩
  · rintro x c y h1 h2 ⟨rfl,rfl,ux⟩
    dsimp only
    refine wpS_bind (L y x (x - 1) _ b (by lia) (by lia) ?_)
    by_cases q:kf kx (arrOf y) x < kf kx (arrOf y) (x - 1)
    · rw [decide_eq_true q]
      exact wpS_pure (k x h1 (by lia) ux (.inr q))
    · rw [decide_eq_false q]
      refine wpS_pure ⟨rfl,rfl,ux.more (.inr ?_)⟩
      have:=b.ne (i:=x) (j:=x - 1) (by lia) (by lia) (by lia)
      lia
  · rintro c y ⟨rfl,rfl,ux⟩
    have e:max a m=m:=by lia
    rw [e] at ux ⊢
    exact k m ham (Nat.le_refl _) ux (.inl rfl)
theorem desc_run (L:LtT prog w A E s kx kd a₀){z:SortSt}{a m:Nat}{Q:DescSt→SortSt→Prop}(b:TB kx kd a₀ z)(ha:1≤a)(ham:a≤m)(hm:m≤a₀.size)(u:Dn (kf kx (arrOf z)) a)
    (k:∀ n,a≤n→n≤m→Dn (kf kx (arrOf z)) n→Q (none,n,0) z):wpS (model prog w) A E s (descLoop a m) Q z:=by
  unfold descLoop
  refine wpS_forRange (I:=fun x c y=>y=z∧c=(none,x,0)∧Dn (kf kx (arrOf z)) x) ?_ ?_ ⟨rfl,rfl,u⟩
  · rintro x c y h1 h2 ⟨rfl,rfl,ux⟩
    dsimp only
    refine wpS_bind (L y x (x - 1) _ b (by lia) (by lia) ?_)
    by_cases q:kf kx (arrOf y) x < kf kx (arrOf y) (x - 1)
    · rw [decide_eq_true q]
      exact wpS_pure ⟨rfl,rfl,ux.more (.inr q)⟩
    · rw [decide_eq_false q]
      have ne:=b.ne (i:=x) (j:=x - 1) (by lia) (by lia) (by lia)
      refine wpS_bind (L y (x - 1) x _ b (by lia) (by lia) ?_)
      rw [decide_eq_true (show kf kx (arrOf y) (x - 1) < kf kx (arrOf y) x by lia)]
      exact wpS_pure (k x h1 (by lia) ux)
  · rintro c y ⟨rfl,rfl,ux⟩
    have e:max a m=m:=by lia
    rw [e] at ux ⊢
    exact k m ham (Nat.le_refl _) ux
theorem turn_run (L:LtT prog w A E s kx kd a₀){z:SortSt}{a m:Nat}{Q:Option Nat→SortSt→Prop}(b:TB kx kd a₀ z)(ha:1≤a)(ham:a≤m)(hm:m≤a₀.size)(u:Dn (kf kx (arrOf z)) a)
    (k:∀ n y,TB kx kd a₀ y→1≤n→n≤m→Up (kf kx (arrOf y)) n→Q (some n) y):wpS (model prog w) A E s (tail3 a m) Q z:=by
  unfold tail3
  refine wpS_bind (wpS_reverse ?_)
  have b2:TB kx kd a₀ (setArr z (mirror (arrOf z) 0 a ((a - 0) / 2))):=b.arr (mirror_perm _ _ _ _)
  have sz:a≤(arrOf z).size:=by rw [b.size]; lia
  refine wpS_bind (asc_run L b2 ha ham hm (fun i j h1 h2=>?_) fun n n1 n2 un _=>wpS_pure (k n _ b2 (by lia) n2 un))
  show kf kx (mirror (arrOf z) 0 a ((a - 0) / 2)) i < kf kx (mirror (arrOf z) 0 a ((a - 0) / 2)) j
  rw [kf_mirror sz (by lia),kf_mirror sz h2]
  exact u _ _ (by lia) (by lia)
theorem count_run (L:LtT prog w A E s kx kd a₀){z:SortSt}{m:Nat}{Q:Option Nat→SortSt→Prop}(b:TB kx kd a₀ z)(h1:1≤m)(hm:m≤a₀.size)
    (k:∀ n y,TB kx kd a₀ y→1≤n→n≤m→Up (kf kx (arrOf y)) n→Q (some n) y):wpS (model prog w) A E s (countRun' 0 m) Q z:=by
  rw [countRun0_eq]
  refine wpS_bind (asc_run L b (Nat.le_refl 1) h1 hm (Up.one _) fun n n1 n2 un o=>?_)
  dsimp only
  by_cases e:n=m
  · rw [if_pos (by simpa using e)]
    exact wpS_pure (k n z b n1 n2 un)
  · rw [if_neg (by simpa using e)]
    have o:=o.resolve_left e
    by_cases g:n > 1
    · rw [if_pos g]
      refine wpS_bind (L z 0 (n - 1) _ b (by lia) (by lia) ?_)
      rw [decide_eq_true (un 0 (n - 1) (by lia) (by lia))]
      exact wpS_pure (k n z b n1 n2 un)
    · rw [if_neg g]
      have en:n=1:=by lia
      subst en
      unfold descPart
      refine wpS_bind (wpS_lift (wpAny_rule ⟨rfl,?_⟩))
      refine wpS_bind (desc_run L b (by lia) (by lia) hm (fun i j h1 h2=>?_) fun n n1 n2 un=>?_)
      · have ei:i=0:=by lia
        have ej:j=1:=by lia
        rw [ei,ej]
        exact o
      · dsimp only
        rw [if_neg (by lia)]
        exact turn_run L b (by lia) n2 hm un k
theorem insert_all (L:LtT prog w A E s kx kd a₀){z:SortSt}{m ok:Nat}{Q:Bool→SortSt→Prop}(b:TB kx kd a₀ z)(ho:ok≤m)(hm:m≤a₀.size)(u:Up (kf kx (arrOf z)) ok)
    (k:∀ y,TB kx kd a₀ y→Up (kf kx (arrOf y)) m→Q true y):wpS (model prog w) A E s (binarySort' 0 m ok) Q z:=by
  rw [binarySort'_eq]
  simp only [Nat.zero_add]
  refine wpS_bind (wpS_mono (wpS_forRange (I:=fun x c y=>c=(none,())∧TB kx kd a₀ y∧Up (kf kx (arrOf y)) (min x m)) (Q:=fun c y=>c=(none,())∧TB kx kd a₀ y∧Up (kf kx (arrOf y)) m) ?st ?en ?be) ?po)
  case po=>
    rintro c y ⟨rfl,b2,u2⟩
    exact wpS_pure (k y b2 u2)
  case be=>
    refine ⟨rfl,b,fun i j h1 h2=>?_⟩
    by_cases e:ok=0
    · lia
    · exact u i j h1 (by lia)
  case en=>
    rintro c y ⟨e,b2,u2⟩
    rw [show min (max (max ok 1) m) m=m by lia] at u2
    exact ⟨e,b2,u2⟩
  case st=>
    rintro x c y hx1 hx2 ⟨rfl,b2,u2⟩
    rw [show min x m=x by lia] at u2
    refine wpS_bind (wpS_mono (wpS_forRange (I:=fun t c v=>v=y∧∃ l r,c=(none,l,r)∧l≤r∧r≤x∧r - l≤x - t∧(∀ i,i < l→kf kx (arrOf y) i < kf kx (arrOf y) x)∧∀ i,r≤i→i < x→kf kx (arrOf y) x < kf kx (arrOf y) i)
      (Q:=fun c v=>v=y∧∃ l r,c=(none,l,r)∧l≤x∧(∀ i,i < l→kf kx (arrOf y) i < kf kx (arrOf y) x)∧∀ i,l≤i→i < x→kf kx (arrOf y) x < kf kx (arrOf y) i) ?ist ?ien ?ibe) ?ipo)
    case ibe=>exact ⟨rfl,0,x,rfl,by lia,by lia,by lia,fun i h=>by lia,fun i h1 h2=>by lia⟩
    case ien=>
      rintro c v ⟨rfl,l,r,rfl,h1,h2,h3,lo,hi⟩
      have e:l=r:=by lia
      subst e
      exact ⟨rfl,l,l,rfl,h2,lo,hi⟩
    case ist=>
      rintro t c v _ ht ⟨rfl,l,r,rfl,h1,h2,h3,lo,hi⟩
      dsimp only
      by_cases g:l ≥ r
      · rw [if_pos g]
        have e:l=r:=by lia
        subst e
        exact wpS_pure ⟨rfl,l,l,rfl,h2,lo,hi⟩
      · rw [if_neg g]
        refine wpS_bind (L v x ((l+r) / 2) _ b2 (by lia) (by lia) ?_)
        by_cases q:kf kx (arrOf v) x < kf kx (arrOf v) ((l+r) / 2)
        · rw [decide_eq_true q]
          refine wpS_pure ⟨rfl,l,(l+r) / 2,rfl,by lia,by lia,by lia,lo,fun i i1 i2=>?_⟩
          by_cases e:i=(l+r) / 2
          · rw [e]; exact q
          · exact Int.lt_trans q (u2 _ _ (by lia) i2)
        · rw [decide_eq_false q]
          have ne:=b2.ne (i:=x) (j:=(l+r) / 2) (by lia) (by lia) (by lia)
          refine wpS_pure ⟨rfl,(l+r) / 2+1,r,rfl,by lia,by lia,by lia,fun i i1=>?_,hi⟩
          by_cases e:i=(l+r) / 2
          · rw [e]; lia
          · exact Int.lt_trans (u2 i ((l+r) / 2) (by lia) (by lia)) (by lia)
    case ipo=>
      rintro c v ⟨rfl,l,r,rfl,hl,lo,hi⟩
      show wpS _ _ _ _ (do moveDown' x l; pure (ForInStep.yield (none,()))) _ _
      rw [moveDown'_eq]
      refine wpS_bind (wpS_modify (wpS_pure ⟨rfl,b2.arr (bubble_perm _ _ _),?_⟩))
      rw [show min (x+1) m=x+1 by lia]
      have sz:x < (arrOf v).size:=by rw [b2.size]; lia
      intro i j h1 h2
      show kf kx (bubble (arrOf v) x (x - l)) i < kf kx (bubble (arrOf v) x (x - l)) j
      rw [kf_bubble sz hl,kf_bubble sz hl]
      by_cases i1:i=l
      · rw [if_pos i1,if_neg (by lia),if_pos (by lia)]
        exact hi _ (by lia) (by lia)
      · rw [if_neg i1]
        by_cases j1:j=l
        · rw [if_pos j1,if_neg (by lia)]
          exact lo _ (by lia)
        · rw [if_neg j1]
          by_cases i2:l < i∧i≤x
          · rw [if_pos i2,if_pos (by lia)]
            exact u2 _ _ (by lia) (by lia)
          · rw [if_neg i2]
            by_cases j2:l < j∧j≤x
            · rw [if_pos j2]
              by_cases e:i=j - 1
              · lia
              · exact u2 _ _ (by lia) (by lia)
            · rw [if_neg j2]
              exact u2 _ _ h1 (by lia)
end
end Se
namespace Se
open PySem PyProof.Rows
section
variable {prog:Program}{w:World}{A:Around}{E:Value→Shared→Prop}{s:Shared}{a₀:Array Keyed}{kx:Keyed→Int}{kd:SortKind}
structure Dun (kx:Keyed→Int)(a₀:Array Keyed)(y:SortSt):Prop where
  perm:(arrOf y).Perm a₀
  failed:failedOf y=none
  pend:pendingOf y=#[(0,a₀.size,0)]
  up:Up (kf kx (arrOf y)) a₀.size
theorem TB.dun {y:SortSt}(b:TB kx kd a₀ y)(u:Up (kf kx (arrOf y)) a₀.size):Dun kx a₀ (setPending y ((pendingOf y).push (0,a₀.size,0))):=
  ⟨b.perm,b.failed,by show (pendingOf y).push _=_; rw [b.pend]; rfl,u⟩
theorem sort_runs (L:LtT prog w A E s kx kd a₀){z:SortSt}{Q:Unit→SortSt→Prop}(b:TB kx kd a₀ z)(h2:2≤a₀.size)(h64:a₀.size < 64)(k:∀ y,(arrOf y).Perm a₀→failedOf y=none→Up (kf kx (arrOf y)) a₀.size→Q () y):
    wpS (model prog w) A E s sortRuns' Q z:=by
  rw [sortRuns'_eq]
  refine wpS_bind (wpS_get ?_)
  dsimp only
  have mr:minRun' a₀.size a₀.size 0=a₀.size:=by
    cases e:a₀.size with
    | zero=>lia
    | succ n=>
      rw [minRun'_succ,if_pos (by lia)]
  simp only [b.size,mr]
  refine wpS_bind (wpS_mono (wpS_forRange (I:=fun x c y=>(x=0∧c=(none,0)∧TB kx kd a₀ y)∨(1≤x∧c=(none,a₀.size)∧Dun kx a₀ y)) (Q:=fun c y=>c=(none,a₀.size)∧Dun kx a₀ y) ?st ?en (.inl ⟨rfl,rfl,b⟩)) ?po)
  case en=>
    rintro c y (⟨h,_,_⟩ | ⟨_,e,d⟩)
    · lia
    · exact ⟨e,d⟩
  case st=>
    rintro x c y _ hx (⟨rfl,rfl,b2⟩ | ⟨h1,rfl,d⟩)
    · dsimp only
      rw [if_neg (by lia)]
      simp only [Nat.sub_zero,Nat.min_self,Nat.zero_add]
      refine wpS_bind (count_run L b2 (by lia) (Nat.le_refl _) fun n y2 b3 n1 n2 u=>?_)
      dsimp only
      by_cases lt:n < a₀.size
      · rw [if_pos lt]
        refine wpS_bind (wpS_lift (wpAny_rule ⟨rfl,?_⟩))
        refine wpS_bind (insert_all L b3 n2 (Nat.le_refl _) u fun y3 b4 u3=>?_)
        simp only [Bool.not_true,Bool.false_eq_true,if_false]
        refine wpS_bind (wpS_get ?_)
        rw [show (pendingOf y3).back?=none by rw [b4.pend]; rfl]
        exact wpS_bind (wpS_modify (wpS_pure (.inr ⟨by lia,rfl,b4.dun u3⟩)))
      · rw [if_neg lt]
        have e:n=a₀.size:=by lia
        subst e
        refine wpS_bind (wpS_get ?_)
        rw [show (pendingOf y2).back?=none by rw [b3.pend]; rfl]
        exact wpS_bind (wpS_modify (wpS_pure (.inr ⟨by lia,rfl,b3.dun u⟩)))
    · dsimp only
      rw [if_pos (Nat.le_refl _)]
      exact wpS_pure ⟨rfl,d⟩
  case po=>
    rintro c y ⟨rfl,d⟩
    dsimp only
    refine wpS_bind (wpS_mono (wpS_forRange (I:=fun _ c v=>v=y∧c=(none,())) (Q:=fun c v=>v=y∧c=(none,())) ?_ (fun _ _ q=>q) ⟨rfl,rfl⟩) ?_)
    · rintro x c v _ _ ⟨rfl,rfl⟩
      refine wpS_bind (wpS_get ?_)
      rw [if_pos (by rw [d.pend]; exact Nat.le_refl 1)]
      exact wpS_pure ⟨rfl,rfl⟩
    · rintro c v ⟨rfl,rfl⟩
      exact wpS_pure (k _ d.perm d.failed d.up)
end
end Se
namespace Se
open PySem PyProof.Rows
noncomputable abbrev tup':SortKind:=(sortPriv% PySem.Builtin.KeyKind.tuples) true
inductive Pr (h:Heap)(v:Value)(a b:Int):Prop
  | mk:∀ (p:Addr) (o:Obj) (t u:Tok) (n:Nat),(v=.ref p)→(h.get? p=some o)→(o.cls=.type "tuple")→(o.data=.seq #[.int a t,.int b u] n)→Pr h v a b
theorem keyLt_tup (x y:Value):keyLt' tup' x y=(do
    let xs ←Builtin.List.listItems x
    let ys ←Builtin.List.listItems y
    for ((p,q),i) in (xs.toList.zip ys.toList).zipIdx do
      if !(←eqBool p q) then return ←oneLt' (true && i == 0) p q
    return xs.size < ys.size):=rfl
section
variable {prog:Program}{w:World}{A:Around}{E:Value→Shared→Prop}{s:Shared}
theorem lt_pair {x y:Value}{a b c d:Int}{Q:Bool→Shared→Prop}(hx:Pr s.heap x a b)(hy:Pr s.heap y c d)(ne:a=c→b=d)(k:Q (decide (a < c)) s):wpAny (model prog w) A (keyLt' tup' x y) Q E s:=by
  obtain ⟨p,o,t,u,n,rfl,ho,_,hd⟩:=hx
  obtain ⟨p2,o2,t2,u2,n2,rfl,ho2,_,hd2⟩:=hy
  rw [keyLt_tup]
  refine wpAny_bind (listItems_at ho hd (wpAny_bind (listItems_at ho2 hd2 ?_)))
  show wpAny _ _ (do
    let r ←forIn [((Value.int a t,Value.int c t2),0),((Value.int b u,Value.int d u2),1)] _ _
    _) _ _ _
  rw [List.forIn_cons]
  refine wpAny_bind (wpAny_bind ?_)
  dsimp only
  refine wpAny_bind (wpAny_eqBool_int ?_)
  by_cases e:a=c
  · rw [show (a == c)=true from beq_iff_eq.mpr e]
    refine wpAny_pure ?_
    dsimp only
    rw [List.forIn_cons]
    refine wpAny_bind ?_
    refine wpAny_bind (wpAny_eqBool_int ?_)
    rw [show (b == d)=true from beq_iff_eq.mpr (ne e)]
    refine wpAny_pure ?_
    dsimp only
    rw [List.forIn_nil]
    refine wpAny_pure (wpAny_pure ?_)
    rw [e,decide_eq_false (Int.lt_irrefl c)] at k
    exact k
  · rw [show (a == c)=false from beq_eq_false_iff_ne.mpr e]
    exact wpAny_bind (oneLt_int (wpAny_pure (wpAny_pure (wpAny_pure k))))
theorem tup_ltAt {z:SortSt}{i j:Nat}{x y p q:Value}{a b c d:Int}{Q:Option Bool→SortSt→Prop}(hk:kindOf z=tup')(hi:(arrOf z)[i]?=some (x,p))(hj:(arrOf z)[j]?=some (y,q))(hx:Pr s.heap x a b)(hy:Pr s.heap y c d)(ne:a=c→b=d)
    (k:Q (some (decide (a < c))) z):wpS (model prog w) A E s (ltAt' i j) Q z:=by
  rw [ltAt'_eq]
  refine wpS_bind (wpS_get ?_)
  show wpS _ _ _ _ (do let u ←elem' (arrOf z) i; let v ←elem' (arrOf z) j; lt' u v) Q z
  rw [elem'_eq,elem'_eq,hi,hj]
  refine wpS_bind (wpS_pure (wpS_bind (wpS_pure ?_)))
  rw [lt'_eq]
  refine wpS_bind (wpS_get ?_)
  rw [hk]
  exact wpS_bind (wpS_lift (wpAny_attempt (lt_pair hx hy ne ⟨rfl,wpS_pure k⟩)))
end
end Se
namespace Se
open PySem PyProof.Rows
theorem Pr.un {h:Heap}{v:Value}{a b c d:Int}(x:Pr h v a b)(y:Pr h v c d):a=c∧b=d:=by
  obtain ⟨p,o,t,u,n,rfl,ho,_,hd⟩:=x
  obtain ⟨p2,o2,t2,u2,n2,e,ho2,_,hd2⟩:=y
  cases e
  rw [ho] at ho2
  cases ho2
  rw [hd] at hd2
  cases hd2
  exact ⟨rfl,rfl⟩
theorem Pr.kept {h h':Heap}{v:Value}{a b:Int}(x:Pr h v a b)(k:∀ p o,h.get? p=some o→o.cls=.type "tuple" → h'.get? p=some o):Pr h' v a b:=by
  obtain ⟨p,o,t,u,n,e,ho,hc,hd⟩:=x
  exact ⟨p,o,t,u,n,e,k p o ho hc,hc,hd⟩
inductive Prs (h:Heap):List Value→List (Int×Int)→Prop
  | nil:Prs h [] []
  | cons {v:Value} {a b:Int} {vs:List Value} {ps:List (Int×Int)}:Pr h v a b→Prs h vs ps→Prs h (v::vs) ((a,b)::ps)
theorem Prs.kept {h h':Heap}(k:∀ p o,h.get? p=some o→o.cls=.type "tuple" → h'.get? p=some o):∀ {vs:List Value} {ps:List (Int×Int)},Prs h vs ps→Prs h' vs ps
  | _,_,.nil=>.nil
  | _,_,.cons x r=>.cons (x.kept k) (Prs.kept k r)
theorem Prs.len {h:Heap}:∀ {vs:List Value} {ps:List (Int×Int)},Prs h vs ps→vs.length=ps.length
  | _,_,.nil=>rfl
  | _,_,.cons _ r=>by rw [List.length_cons,List.length_cons,Prs.len r]
theorem Prs.mem {h:Heap}:∀ {vs:List Value} {ps:List (Int×Int)},Prs h vs ps→∀ v∈vs,∃ a b,Pr h v a b
  | _,_,.nil,v,hv=>by simp at hv
  | _,_,.cons x r,v,hv=>by
    rcases List.mem_cons.mp hv with rfl | hv
    · exact ⟨_,_,x⟩
    · exact Prs.mem r v hv
noncomputable def pk (h:Heap)(v:Value):Int×Int:=open Classical in if q:∃ p:Int×Int,Pr h v p.1 p.2 then Classical.choose q else (0,0)
theorem pk_eq {h:Heap}{v:Value}{a b:Int}(x:Pr h v a b):pk h v=(a,b):=by
  have q:∃ p:Int×Int,Pr h v p.1 p.2:=⟨(a,b),x⟩
  unfold pk
  rw [dif_pos q]
  obtain ⟨e1,e2⟩:=(Classical.choose_spec q).un x
  exact Prod.ext e1 e2
theorem Prs.map {h:Heap}:∀ {vs:List Value} {ps:List (Int×Int)},Prs h vs ps→vs.map (pk h)=ps
  | _,_,.nil=>rfl
  | _,_,.cons x r=>by rw [List.map_cons,pk_eq x,Prs.map r]
theorem prs_of {h:Heap}:∀ {vs:List Value},(∀ v∈vs,∃ a b,Pr h v a b)→Prs h vs (vs.map (pk h))
  | [],_=>.nil
  | v::vs,k=>by
    obtain ⟨a,b,x⟩:=k v List.mem_cons_self
    rw [List.map_cons,pk_eq x]
    exact .cons x (prs_of fun u hu=>k u (List.mem_cons_of_mem _ hu))
section
variable {prog:Program}{w:World}{A:Around}{E:Value→Shared→Prop}{s:Shared}
theorem first_eq (v:Value):firstOfTuple' v=(do
    if (←typeOf v) != .type "tuple" then return none
    return (←Builtin.List.listItems v)[0]?):=rfl
theorem wp_firsts:∀ {vs:List Value} {ps:List (Int×Int)} {Q:List (Option Value)→Shared→Prop},Prs s.heap vs ps→(∀ us,IntsAre us (ps.map (·.1))→Q (us.map some) s)→wpAny (model prog w) A (vs.mapM firstOfTuple') Q E s
  | _,_,Q,.nil,k=>by
    rw [List.mapM_nil]
    exact wpAny_pure (k [] .nil)
  | _,_,Q,.cons (a:=a) (b:=b) x r,k=>by
    rw [List.mapM_cons,first_eq]
    obtain ⟨p,o,t,u,n,rfl,ho,hc,hd⟩:=x
    have hT:s.TypeIs (.ref p) "tuple" := ⟨o,ho,hc⟩
    refine wpAny_bind (wpAny_bind (wpAny_typeOf hT ?_))
    rw [if_neg (by simp)]
    refine wpAny_bind (listItems_at ho hd (wpAny_pure ?_))
    refine wpAny_bind (wp_firsts r fun us hu=>wpAny_pure ?_)
    exact k (.int a t::us) (.cons a t hu)
theorem wp_kind {vs:List Value}{ps:List (Int×Int)}{Q:SortKind→Shared→Prop}(h:Prs s.heap vs ps)(ne:vs≠[])(k:Q tup' s):wpAny (model prog w) A (keyKind' vs.toArray) Q E s:=by
  rw [keyKind'_eq,List.mapM_toArray]
  refine wpAny_bind ?_
  rw [map_eq_pure_bind]
  refine wpAny_bind (wp_firsts h fun us hu=>wpAny_pure ?_)
  rw [if_pos (by simp)]
  refine wpAny_bind (wpAny_rule ?_)
  have e1:(us.map some).toArray.filterMap id=us.toArray:=by
    rw [List.filterMap_toArray]
    congr 1
    rw [List.filterMap_map]
    exact List.filterMap_some
  rw [e1,oneTypeOnly'_eq,List.mapM_toArray,mapM_typeOf_ints hu]
  simp only [map_pure,pure_bind]
  have une:us≠[]:=fun z=>by
    have l1:=len_ints hu
    rw [z,List.length_map] at l1
    have l2:=h.len
    rw [←l1] at l2
    exact ne (List.length_eq_zero_iff.mp l2)
  have all:((us.map fun _=>Value.type "int").toArray.all fun x=>x == Value.type "int")=true:=by
    simp only [List.all_toArray,List.all_map,List.all_eq_true]
    intro _ _
    rfl
  have at0:(us.map fun _=>Value.type "int").toArray[0]?=some (Value.type "int"):=by
    cases us with
    | nil=>exact absurd rfl une
    | cons u r=>simp
  rw [at0]
  simp only [all,if_true,pure_bind]
  exact wpAny_pure k
end
end Se
namespace Se
open PySem PyProof.Rows
section
variable {prog:Program}{w:World}{A:Around}{E:Value→Shared→Prop}{s:Shared}
noncomputable abbrev kxOf (h:Heap)(p:Keyed):Int:=(pk h p.1).1
theorem lt_pairs {vs:List Value}(pr:∀ v∈vs,∃ a b,Pr s.heap v a b):LtT prog w A E s (kxOf s.heap) tup' (pairsOf vs):=fun z i j Q b hi hj k=>by
  have mem:∀ l,l < (pairsOf vs).size→∃ x p,(arrOf z)[l]?=some (x,p)∧x∈vs:=fun l hl=>by
    have hl':l < (arrOf z).size:=by rw [b.size]; exact hl
    refine ⟨(arrOf z)[l].1,(arrOf z)[l].2,Array.getElem?_eq_getElem hl',?_⟩
    have hm:(arrOf z)[l]∈(pairsOf vs).toList:=(Array.perm_iff_toList_perm.mp b.perm).mem_iff.mp (by simp)
    rw [pairsOf_toList] at hm
    exact (mem_zip_self hm).2
  obtain ⟨x,p,e1,m1⟩:=mem i hi
  obtain ⟨y,q,e2,m2⟩:=mem j hj
  obtain ⟨a1,b1,p1⟩:=pr x m1
  obtain ⟨a2,b2,p2⟩:=pr y m2
  have k1:kf (kxOf s.heap) (arrOf z) i=a1:=by
    unfold kf kxOf
    rw [e1]
    show (pk s.heap x).1=a1
    rw [pk_eq p1]
  have k2:kf (kxOf s.heap) (arrOf z) j=a2:=by
    unfold kf kxOf
    rw [e2]
    show (pk s.heap y).1=a2
    rw [pk_eq p2]
  rw [k1,k2] at k
  refine tup_ltAt b.kind e1 e2 p1 p2 (fun e=>?_) k
  have eij:i=j:=Classical.byContradiction fun n=>b.ne hi hj n (by rw [k1,k2,e])
  subst eij
  rw [e1] at e2
  cases e2
  exact (p1.un p2).2
theorem sort_pairs {a:Addr}{vs:List Value}{ps:List (Int×Int)}{n:Nat}{P:Fin→Shared→Prop}(ho:s.heap.get? a=some (seqObj "list" vs.toArray n))(hp:Prs s.heap vs ps)(nd:(ps.map (·.1)).Nodup)(h64:vs.length < 64)
    (h:∀ (out:Array Value) (qs:List (Int×Int)),Prs s.heap out.toList qs→out.toList.Perm vs→qs.Perm ps→qs.Pairwise (fun x y=>x.1 < y.1)→P (.done (.ret .none)) { s with heap:=sortedHeap s.heap a vs out }):
    wpAny (model prog w) A (Builtin.«list.sort» ⟨[.ref a],[]⟩) P E s:=by
  rw [list_sort_plain]
  have ha:a < s.heap.objs.size:=Heap.lt_size ho
  refine wpAny_bind (listItems_at ho rfl (wpAny_bind (listUpdate_at ho rfl ?_)))
  obtain ⟨e1,ho1⟩:∃ e1,(s.heap.update a (Obj.mapSeq fun _=>#[])).get? a=some (seqObj "list" #[] e1):=⟨_,get?_update_seq ho (fun _=>#[])⟩
  refine wpAny_bind (seqEpoch_at ho1 rfl (wpAny_bind (wpAny_newTuple (wpAny_bind (wpAny_newList (wpAny_holding ?_))))))
  generalize hg:((s.heap.update a (Obj.mapSeq fun _=>#[])).push (seqObj "tuple" vs.toArray 0)).push (seqObj "list" #[] 0)=g
  have keep:∀ b o,b≠a→s.heap.get? b=some o→g.get? b=some o:=fun b o ne e=>by
    rw [←hg]
    exact Heap.get?_push_of_some _ (Heap.get?_push_of_some _ (((Heap.SameBut.update _ a _).2 b ne).trans e))
  have ho6:g.get? a=some (seqObj "list" #[] e1):=by
    rw [←hg]
    exact Heap.get?_push_of_some _ (Heap.get?_push_of_some _ ho1)
  show wpAny (model prog w) A _ P E { s with heap:=g }
  dsimp only
  have hp6:Prs g vs ps:=hp.kept fun b o e c=>keep b o (fun z=>by
    rw [z,ho] at e
    cases e
    exact absurd (Value.type.inj c) (by decide)) e
  have fin:∀ y:SortSt,(arrOf y).Perm (pairsOf vs)→Up (kf (kxOf g) (arrOf y)) (pairsOf vs).size→P (.done (.ret .none)) { s with heap:=g.update a (Obj.mapSeq fun _=>(arrOf y).map (·.2)) }:=fun y pm up=>by
    have hl:(arrOf y).toList.Perm (vs.zip vs):=by rw [←pairsOf_toList]; exact Array.perm_iff_toList_perm.mp pm
    have hm:∀ q,q∈(arrOf y).toList→q.1=q.2∧q.1∈vs:=fun q hq=>mem_zip_self (hl.mem_iff.mp hq)
    have eo:((arrOf y).map (·.2)).toList=(arrOf y).toList.map (·.1):=by
      rw [Array.toList_map]
      exact List.map_congr_left fun q hq=>(hm q hq).1.symm
    have po:((arrOf y).map (·.2)).toList.Perm vs:=by
      rw [eo]
      refine (hl.map Prod.fst).trans ?_
      rw [List.map_fst_zip (Nat.le_refl _)]
    have hq:=h ((arrOf y).map (·.2)) (((arrOf y).map (·.2)).toList.map (pk s.heap)) (prs_of fun v hv=>hp.mem v (po.mem_iff.mp hv)) po (by
      refine (po.map _).trans ?_
      rw [hp.map]) ?_
    · unfold sortedHeap at hq
      rw [hg] at hq
      exact hq
    · rw [eo,List.map_map,List.pairwise_iff_getElem]
      intro i j hi hj hij
      have hi':i < (arrOf y).size:=by simpa using hi
      have hj':j < (arrOf y).size:=by simpa using hj
      have u:=up i j hij (by rw [←pm.size_eq]; exact hj')
      have kv:∀ l (hl:l < (arrOf y).size),kf (kxOf g) (arrOf y) l=(pk s.heap (arrOf y)[l].1).1:=fun l hl=>by
        unfold kf kxOf
        rw [Array.getElem?_eq_getElem hl]
        show (pk g (arrOf y)[l].1).1=_
        obtain ⟨c,d,x⟩:=hp.mem _ (hm _ (Array.getElem_mem_toList hl)).2
        obtain ⟨c2,d2,x2⟩:=hp6.mem _ (hm _ (Array.getElem_mem_toList hl)).2
        rw [pk_eq x,pk_eq x2]
        exact (x2.un (x.kept fun b o e cc=>keep b o (fun z=>by
          rw [z,ho] at e
          cases e
          exact absurd (Value.type.inj cc) (by decide)) e)).1
      rw [kv i hi',kv j hj'] at u
      simpa using u
  by_cases h2:vs.toArray.size < 2
  · rw [if_pos h2,if_pos h2]
    refine wpAny_bind (wpAny_pure ?_)
    rw [StateT.run_pure]
    refine wpAny_bind (wpAny_pure ?_)
    dsimp only
    refine wpAny_bind (seqEpoch_at (s:={ s with heap:=g }) ho6 rfl ?_)
    refine wpAny_bind (listUpdate_at (s:={ s with heap:=g }) ho6 rfl ?_ (hsz2:=by rw [Array.size_map]; show (pairsOf vs).size≤_; rw [pairsOf_size,sizeLine_eq]; lia))
    simp only [bne_self_eq_false,Bool.false_eq_true,if_false]
    refine wpAny_pure (fin (SortSt.mk' general' (vs.toArray.zip vs.toArray) #[] 7 none) (Array.Perm.refl _) fun i j h1 h3=>?_)
    rw [pairsOf_size] at h3
    have:vs.length < 2:=by simpa using h2
    lia
  · rw [if_neg h2,if_neg h2]
    have l2:2≤vs.length:=by
      have:¬ vs.length < 2:=by simpa using h2
      lia
    refine wpAny_bind (wp_kind (s:={ s with heap:=g }) hp6 (fun z=>by rw [z] at l2; simp at l2) ?_)
    have tb:TB (kxOf g) tup' (pairsOf vs) (SortSt.mk' tup' (vs.toArray.zip vs.toArray) #[] 7 none):=by
      refine ⟨Array.Perm.refl _,rfl,rfl,rfl,?_⟩
      rw [pairsOf_toList]
      have e:(vs.zip vs).map (kxOf g)=ps.map (·.1):=by
        have e0:(vs.zip vs).map (kxOf g)=(((vs.zip vs).map Prod.fst).map (pk g)).map (·.1):=by rw [List.map_map,List.map_map]; rfl
        rw [e0,List.map_fst_zip (Nat.le_refl _),hp6.map]
      rw [e]
      exact nd
    have sr:=sort_runs (prog:=prog) (w:=w) (A:=A) (E:=E) (s:={ s with heap:=g }) (lt_pairs fun v hv=>hp6.mem v hv) (Q:=fun _ y=>(arrOf y).Perm (pairsOf vs)∧failedOf y=none∧Up (kf (kxOf g) (arrOf y)) (pairsOf vs).size) tb (by rw [pairsOf_size]; exact l2) (by rw [pairsOf_size]; exact h64) fun y p1 p2 p3=>⟨p1,p2,p3⟩
    refine wpAny_bind (wpAny_mono sr ?_ fun _ _ e=>e)
    rintro ⟨⟨⟩,y⟩ s' ⟨rfl,p1,p2,p3⟩
    dsimp only
    refine wpAny_bind (seqEpoch_at (s:={ s with heap:=g }) ho6 rfl ?_)
    refine wpAny_bind (listUpdate_at (s:={ s with heap:=g }) ho6 rfl ?_ (hsz2:=by
      refine Nat.le_trans (Nat.le_of_eq ((Array.size_map ..).trans (p1.size_eq.trans (pairsOf_size _)))) ?_
      rw [sizeLine_eq]
      lia))
    rw [p2]
    simp only [bne_self_eq_false,Bool.false_eq_true,if_false]
    exact wpAny_pure (fin y p1 p3)
end
end Se
namespace Se
open PySem PySem.Spec
noncomputable abbrev dI (f0 f1:Value)(d:Addr)(i n ep:Nat)(ok ov:Value):Obj:={ cls:=.type "dict_itemiterator",dict:=none,data:=.fields #[f0,f1,.ref d,.int i 0,.int n 0,.int ep 0,ok,ov],slots:=#[] }
section
variable {prog:Program}{w:World}{K:Type}[DecidableEq K]{knd:KeyKind prog w K}{A:Around}{E:Value→Shared→Prop}{s:Shared}
theorem wp_alive {M:Model}{a:Addr}{o:Obj}{Q:Option Obj→Shared→Prop}(ho:s.heap.get? a=some o)(h:Q (some o) s):wpAny M A (loadIfAlive a) Q E s:=fun Γ p _=>by
  show Q (s.heap.get? a) s
  rw [ho]
  exact h
theorem items_turn {it d:Addr}{i n ep:Nat}{f0 f1 ok ov:Value}{es:Array DictEntry}{od:Obj}{Q:Option Value→Shared→Prop}(hit:s.heap.get? it=some (dI f0 f1 d i n ep ok ov))(hod:s.heap.get? d=some od)(hdd:od.data=.dict es ep)(hn:es.size=n)(hi:i < es.size)
    (k:∀ h',h'.get? it=some (dI f0 f1 d (i+1) n ep ok ov)→Heap.SameBut it s.heap h'→wpAny (model prog w) A.in1 (Builtin.Dict_items.pairFromOwner (.ref it) 6 es[i].key es[i].val) (fun v s'=>Q (some v) s') (StopE prog w A Q) { s with heap:=h' }):
    wpAny (model prog w) A (pyNext (.ref it)) Q E s:=by
  have hT:s.TypeIs (.ref it) "dict_itemiterator" := ⟨_,hit,rfl⟩
  unfold pyNext
  refine wpAny_bind (wpAny_attempt (wpAny_callSpecial?_slot (name:=Str.ofString "__next__") hT PySem.F.slot_dict_itemiterator_next (wpAny_call_entry PySem.F.slot_dict_itemiterator_next hT PySem.F.entry_dict_itemiterator_next ?_ (PySem.F.args_dict_itemiterator_next_1 _))))
  refine wpAny_bind (wpAny_pure (wpAny_bind (wpAny_bind ?_)))
  refine wpAny_bind (wpAny_typeNameOfWhole_itemiter hT (wpAny_pure ?_))
  refine wpAny_bind (wpAny_fieldsOf hit rfl ?_)
  have own:Builtin.Dict_items.ownsTuple "dict_itemiterator" = true:=by decide
  simp only [own,if_true]
  show wpAny _ _ (if (Value.ref d == Value.none)=true then _ else _) _ _ _
  rw [if_neg (show ¬ ((Value.ref d == Value.none)=true) from Bool.false_ne_true)]
  refine wpAny_bind (wpAny_pure (wpAny_bind (wpAny_dictEntries hod hdd ?_)))
  rw [if_neg (by rw [hn]; simp)]
  refine wpAny_bind (wpAny_pure (wpAny_bind (wpAny_dictEpoch hod hdd ?_)))
  rw [if_neg (by simp)]
  refine wpAny_pure ?_
  simp only [show ¬ ((i:Int) < 0) from by lia,if_false,Int.toNat_natCast,Array.getElem?_eq_getElem hi]
  refine wpAny_bind (wpAny_bind (wpAny_typeNameOfWhole_itemiter hT (wpAny_pure ?_)))
  refine wpAny_bind (wpAny_isOneOf_itemiter hT ?_)
  show wpAny _ _ (setField (.ref it) 3 (rawInt ((i:Int)+1))>>=_) _ _ s
  refine wpAny_bind (wpAny_setField_rec hit (by simp) fun h1 e1 s1=>?_)
  have e2:h1.get? it=some (dI f0 f1 d (i+1) n ep ok ov):=by
    have e:((i+1:Nat):Int)=(i:Int)+1:=by lia
    unfold dI
    rw [e]
    simpa [rawInt] using e1
  have hT1:Shared.TypeIs { s with heap:=h1 } (.ref it) "dict_itemiterator" := ⟨_,e2,rfl⟩
  refine wpAny_bind (wpAny_holding (wpAny_bind (wpAny_isOneOf_itemiter hT1 (wpAny_bind (wpAny_isOneOf_itemiter hT1 ?_)))))
  refine wpAny_mono (k h1 e2 s1) (fun v s' q=>wpAny_pure ⟨v,rfl,wpAny_pure q⟩) fun e s' q=>?_
  exact wpAny_bind (wpAny_isInstance (T := "StopIteration") (b:=true) q.1 isSubtype_stop (wpAny_pure q.2))
theorem items_more {it d a0:Addr}{i n ep:Nat}{fb:Bool}{ok ov:Value}{es:Array DictEntry}{od oa:Obj}{Q:Option Value→Shared→Prop}(hit:s.heap.get? it=some (dI (rawInt a0) (.bool fb) d i n ep ok ov))(hod:s.heap.get? d=some od)(hdd:od.data=.dict es ep)(hn:es.size=n)(hi:i < es.size)
    (al:s.heap.get? a0=some oa) (ne:a0≠it)
    (k:∀ h',h'.get? it=some (dI (rawInt a0) (.bool true) d (i+1) n ep ok ov)→h'.get? s.heap.objs.size=some { cls:=.type "tuple",data:=.seq #[es[i].key,es[i].val] }→(∀ b o,b≠it→s.heap.get? b=some o→h'.get? b=some o)→Q (some (.ref s.heap.objs.size)) { s with heap:=h' }):
    wpAny (model prog w) A (pyNext (.ref it)) Q E s:=by
  have lt:it < s.heap.objs.size:=Heap.lt_size hit
  refine items_turn hit hod hdd hn hi fun h1 e1 s1=>?_
  unfold Builtin.Dict_items.pairFromOwner
  have z1:h1.objs.size=s.heap.objs.size:=s1.1
  refine wpAny_bind (wpAny_newTuple (s:={ s with heap:=h1 }) ?_)
  have e2:(h1.push { cls:=.type "tuple",data:=.seq #[es[i].key,es[i].val] }).get? it=some (dI (rawInt a0) (.bool fb) d (i+1) n ep ok ov):=Heap.get?_push_of_some _ e1
  have t2:(h1.push { cls:=.type "tuple",data:=.seq #[es[i].key,es[i].val] }).get? s.heap.objs.size=some { cls:=.type "tuple",data:=.seq #[es[i].key,es[i].val] }:=by rw [←z1]; exact Heap.get?_push_size _ rfl
  have k2:∀ b o,b≠it→s.heap.get? b=some o→(h1.push { cls:=.type "tuple",data:=.seq #[es[i].key,es[i].val] }).get? b=some o:=fun b o nb e=>Heap.get?_push_of_some _ ((s1.2 b nb).trans e)
  show wpAny _ _ _ _ _ { s with heap:=h1.push { cls:=.type "tuple",data:=.seq #[es[i].key,es[i].val] } }
  generalize h1.push { cls:=.type "tuple",data:=.seq #[es[i].key,es[i].val] }=h2 at e2 t2 k2 ⊢
  refine wpAny_bind ?_
  unfold Builtin.Dict_items.ownedTupleIsFree
  refine wpAny_bind (wpAny_field (s:={ s with heap:=h2 }) e2 rfl (x:=rawInt a0) rfl ?_)
  show wpAny _ _ (loadIfAlive (Int.toNat a0)>>=_) _ _ _
  rw [Int.toNat_natCast]
  refine wpAny_bind (wp_alive (s:={ s with heap:=h2 }) (k2 a0 _ ne al) ?_)
  rw [if_neg (by simp)]
  refine wpAny_bind (wpAny_field (s:={ s with heap:=h2 }) e2 rfl (x:=.bool fb) rfl ?_)
  have fin:∀ h3,h3.get? it=some (dI (rawInt a0) (.bool true) d (i+1) n ep ok ov)→Heap.SameBut it h2 h3→Q (some (.ref s.heap.objs.size)) { s with heap:=h3 }:=fun h3 e3 s3=>k h3 e3 ((s3.2 _ (Nat.ne_of_gt lt)).trans t2) fun b o nb e=>(s3.2 b nb).trans (k2 b o nb e)
  cases fb with
  | true=>
    rw [if_neg (by decide)]
    refine wpAny_pure ?_
    rw [if_neg (by decide),z1]
    exact wpAny_pure (fin h2 e2 (Heap.SameBut.refl _ _))
  | false=>
    rw [if_pos (by decide)]
    refine wpAny_bind (wpAny_setField_rec (s:={ s with heap:=h2 }) e2 (by simp) fun h3 e3 s3=>?_)
    refine wpAny_pure ?_
    rw [if_neg (by decide),z1]
    exact wpAny_pure (fin h3 e3 s3)
theorem items_first {it d:Addr}{i n ep:Nat}{ok ov:Value}{es:Array DictEntry}{od:Obj}{Q:Option Value→Shared→Prop}(hit:s.heap.get? it=some (dI .none (.bool false) d i n ep ok ov))(hod:s.heap.get? d=some od)(hdd:od.data=.dict es ep)(hn:es.size=n)(hi:i < es.size)
    (k:∀ h',h'.get? it=some (dI (rawInt s.heap.objs.size) (.bool false) d (i+1) n ep es[i].key es[i].val)→h'.get? s.heap.objs.size=some { cls:=.type "tuple",data:=.seq #[es[i].key,es[i].val] }→(∀ b o,b≠it→s.heap.get? b=some o→h'.get? b=some o)→Q (some (.ref s.heap.objs.size)) { s with heap:=h' }):
    wpAny (model prog w) A (pyNext (.ref it)) Q E s:=by
  have lt:it < s.heap.objs.size:=Heap.lt_size hit
  refine items_turn hit hod hdd hn hi fun h1 e1 s1=>?_
  unfold Builtin.Dict_items.pairFromOwner
  have z1:h1.objs.size=s.heap.objs.size:=s1.1
  refine wpAny_bind (wpAny_newTuple (s:={ s with heap:=h1 }) ?_)
  have e2:(h1.push { cls:=.type "tuple",data:=.seq #[es[i].key,es[i].val] }).get? it=some (dI .none (.bool false) d (i+1) n ep ok ov):=Heap.get?_push_of_some _ e1
  have t2:(h1.push { cls:=.type "tuple",data:=.seq #[es[i].key,es[i].val] }).get? s.heap.objs.size=some { cls:=.type "tuple",data:=.seq #[es[i].key,es[i].val] }:=by rw [←z1]; exact Heap.get?_push_size _ rfl
  have k2:∀ b o,b≠it→s.heap.get? b=some o→(h1.push { cls:=.type "tuple",data:=.seq #[es[i].key,es[i].val] }).get? b=some o:=fun b o nb e=>Heap.get?_push_of_some _ ((s1.2 b nb).trans e)
  show wpAny _ _ _ _ _ { s with heap:=h1.push { cls:=.type "tuple",data:=.seq #[es[i].key,es[i].val] } }
  generalize h1.push { cls:=.type "tuple",data:=.seq #[es[i].key,es[i].val] }=h2 at e2 t2 k2 ⊢
  refine wpAny_bind ?_
  unfold Builtin.Dict_items.ownedTupleIsFree
  refine wpAny_bind (wpAny_field (s:={ s with heap:=h2 }) e2 rfl (x:=.none) rfl (wpAny_pure ?_))
  simp only [if_true,z1]
  refine wpAny_bind (wpAny_field (s:={ s with heap:=h2 }) e2 rfl (x:=ok) rfl (wpAny_bind (wpAny_field (s:={ s with heap:=h2 }) e2 rfl (x:=ov) rfl ?_)))
  refine wpAny_bind (wpAny_setField_rec (s:={ s with heap:=h2 }) e2 (by simp) fun h3 e3 s3=>?_)
  have e3:h3.get? it=some (dI .none (.bool false) d (i+1) n ep es[i].key ov):=e3
  refine wpAny_bind (wpAny_setField_rec (s:={ s with heap:=h3 }) e3 (by simp) fun h4 e4 s4=>?_)
  have e4:h4.get? it=some (dI .none (.bool false) d (i+1) n ep es[i].key es[i].val):=e4
  refine wpAny_bind (wpAny_setField_rec (s:={ s with heap:=h4 }) e4 (by simp) fun h5 e5 s5=>?_)
  have e5:h5.get? it=some (dI (rawInt s.heap.objs.size) (.bool false) d (i+1) n ep es[i].key es[i].val):=e5
  refine wpAny_bind (wpAny_setField_rec (s:={ s with heap:=h5 }) e5 (by simp) fun h6 e6 s6=>?_)
  have e6:h6.get? it=some (dI (rawInt s.heap.objs.size) (.bool false) d (i+1) n ep es[i].key es[i].val):=e6
  have s3:Heap.SameBut it h2 h3:=s3
  have s4:Heap.SameBut it h3 h4:=s4
  have s5:Heap.SameBut it h4 h5:=s5
  have s6:Heap.SameBut it h5 h6:=s6
  have sb:=((s3.trans s4).trans s5).trans s6
  exact wpAny_bind (wpAny_letGo (wpAny_pure (k h6 e6 ((sb.2 _ (Nat.ne_of_gt lt)).trans t2) fun b o nb e=>(sb.2 b nb).trans (k2 b o nb e))))
theorem items_stop {it d:Addr}{i n ep:Nat}{f0 f1 ok ov:Value}{es:Array DictEntry}{od:Obj}{Q:Option Value→Shared→Prop}(hh:A.handled=none)(hit:s.heap.get? it=some (dI f0 f1 d i n ep ok ov))(hod:s.heap.get? d=some od)(hdd:od.data=.dict es ep)(hn:es.size=n)(hi:es.size≤i)
    (k:∀ h',(∀ b o,b≠it→s.heap.get? b=some o→h'.get? b=some o)→Q none { s with heap:=h' }):wpAny (model prog w) A (pyNext (.ref it)) Q E s:=by
  have hT:s.TypeIs (.ref it) "dict_itemiterator" := ⟨_,hit,rfl⟩
  unfold pyNext
  refine wpAny_bind (wpAny_attempt (wpAny_callSpecial?_slot (name:=Str.ofString "__next__") hT PySem.F.slot_dict_itemiterator_next (wpAny_call_entry PySem.F.slot_dict_itemiterator_next hT PySem.F.entry_dict_itemiterator_next ?_ (PySem.F.args_dict_itemiterator_next_1 _))))
  refine wpAny_bind (wpAny_pure (wpAny_bind (wpAny_bind ?_)))
  refine wpAny_bind (wpAny_typeNameOfWhole_itemiter hT (wpAny_pure ?_))
  refine wpAny_bind (wpAny_fieldsOf hit rfl ?_)
  have own:Builtin.Dict_items.ownsTuple "dict_itemiterator" = true:=by decide
  simp only [own,if_true]
  show wpAny _ _ (if (Value.ref d == Value.none)=true then _ else _) _ _ _
  rw [if_neg (show ¬ ((Value.ref d == Value.none)=true) from Bool.false_ne_true)]
  refine wpAny_bind (wpAny_pure (wpAny_bind (wpAny_dictEntries hod hdd ?_)))
  rw [if_neg (by rw [hn]; simp)]
  refine wpAny_bind (wpAny_pure (wpAny_bind (wpAny_dictEpoch hod hdd ?_)))
  rw [if_neg (by simp)]
  refine wpAny_pure ?_
  simp only [show ¬ ((i:Int) < 0) from by lia,if_false,Int.toNat_natCast,Array.getElem?_eq_none hi]
  refine wpAny_bind (wpAny_bind (wpAny_typeNameOfWhole_itemiter hT (wpAny_pure ?_)))
  show wpAny _ _ (setField (.ref it) 2 .none>>=_) _ _ s
  refine wpAny_bind (wpAny_setField hit rfl (by simp) ?_)
  refine wpAny_mono (raise_stop (A:=A) (Q:=Q) (Q1:=fun _ _=>False) (by exact hh) fun h' e=>k h' fun b o nb q=>e b o (((Heap.SameBut.update _ it _).2 b nb).trans q)) (fun _ _ q=>q.elim) fun e s' q=>?_
  exact wpAny_bind (wpAny_isInstance (T := "StopIteration") (b:=true) q.1 isSubtype_stop (wpAny_pure q.2))
end
end Se
namespace Se
open PySem PySem.Spec
structure EsP (es:Array DictEntry)(ps:List (Int×Int)):Prop where
  size:es.size=ps.length
  at_:∀ i (hi:i < es.size),∃ a b t u,ps[i]?=some (a,b)∧es[i].key=.int a t∧es[i].val=.int b u
noncomputable def Itr (h:Heap)(I d S:Addr)(n ep i:Nat):Prop:=
  (i=0∧h.get? I=some (dI .none (.bool false) d 0 n ep .none .none))∨(0 < i∧∃ (a0:Addr) (fb:Bool) (ok ov:Value) (oa:Obj),h.get? I=some (dI (rawInt a0) (.bool fb) d i n ep ok ov)∧h.get? a0=some oa∧a0≠I∧a0≠S)
section
variable {prog:Program}{w:World}{A:Around}{E:Value→Shared→Prop}
theorem prs_append {h:Heap}:∀ {vs us:List Value} {ps qs:List (Int×Int)},Prs h vs ps→Prs h us qs→Prs h (vs++us) (ps++qs)
  | _,_,_,_,.nil,y=>y
  | _,_,_,_,.cons x r,y=>.cons x (prs_append r y)
theorem items_loop {R:Result→Shared→Prop}{I d S:Addr}{es:Array DictEntry}{od:Obj}{n ep:Nat}{ps:List (Int×Int)}(hh:A.handled=none)(hdd:od.data=.dict es ep)(hn:es.size=n)(hz:n≤sizeLine)(hp:EsP es ps)(dI':d≠I)(dS:d≠S)(IS:I≠S)(res:Value)(N:Nat):
    ∀ (r i:Nat) (s:Shared) (acc:Array Value) (c:Nat),n - i=r→i≤n→s.heap.get? d=some od→Itr s.heap I d S n ep i→s.heap.get? S=some (PyProof.Rows.seqObj "list" acc c)→acc.size=i→Prs s.heap acc.toList (ps.take i)→N≤s.heap.objs.size→(∀ v∈acc.toList,∃ p,v=Value.ref p∧N≤p)→
      (∀ (h':Heap) (acc':Array Value) (c':Nat),(∀ b o,b≠I→b≠S→s.heap.get? b=some o→h'.get? b=some o)→h'.get? S=some (PyProof.Rows.seqObj "list" acc' c')→Prs h' acc'.toList ps→(∀ v∈acc'.toList,∃ p,v=Value.ref p∧N≤p)→R (.ok (.ret res)) { s with heap:=h' })→
      codeAny (model prog w) A (.builtin "list.extend.loop" ⟨[.ref S,.ref I,res],[]⟩) R s:=by
  intro r
  induction r with
  | zero=>
    intro i s acc c e hi gd it gS sa pa hN na fin
    have ei:i=n:=by lia
    refine codeAny_builtin PySem.F.entry_extend_loop ?_
    rw [Around.under_plainId PySem.F.plain_extend_loop _]
    show wpAny _ A.in1 (pyNext (.ref I)>>=_) _ _ s
    have tk:ps.take i=ps:=List.take_of_length_le (by rw [←hp.size]; lia)
    rw [tk] at pa
    have go:∀ f0 f1 ok ov,s.heap.get? I=some (dI f0 f1 d i n ep ok ov)→wpAny (model prog w) A.in1 (pyNext (.ref I)) (fun x s'=>wpAny (model prog w) A.in1 (match x with | none=>ret res | some x=>do Builtin.List.listUpdate (.ref S) (·.push x); again (.builtin "list.extend.loop" ⟨[.ref S,.ref I,res],[]⟩)) (fun fin s'=>match fin with | .done f=>R (.ok f) s' | .again c'=>c'.quiet=true∧codeAny (model prog w) A c' R s') (fun e s'=>R (.error e) s') s') (fun e s'=>R (.error e) s') s:=fun f0 f1 ok ov hI=>by
      refine items_stop (A:=A.in1) (by exact hh) hI gd hdd hn (by lia) fun h' kp=>?_
      refine wpAny_pure ?_
      have kp':∀ b o,b≠I→b≠S→s.heap.get? b=some o→h'.get? b=some o:=fun b o n1 _ e=>kp b o n1 e
      refine fin h' acc c kp' (kp S _ IS.symm gS) (pa.kept fun p o e2 cc=>kp p o (fun z=>?_) e2) na
      rw [z,hI] at e2
      cases e2
      exact absurd (Value.type.inj cc) (by decide)
    rcases it with ⟨rfl,hI⟩ | ⟨_,a0,fb,ok,ov,oa,hI,_⟩
    · exact wpAny_bind (go _ _ _ _ hI)
    · exact wpAny_bind (go _ _ _ _ hI)
  | succ r ih=>
    intro i s acc c e hi gd it gS sa pa hN na fin
    have lt:i < es.size:=by lia
    obtain ⟨a,b,t,u,pi,ek,ev⟩:=hp.at_ i lt
    refine codeAny_builtin PySem.F.entry_extend_loop ?_
    rw [Around.under_plainId PySem.F.plain_extend_loop _]
    show wpAny _ A.in1 (pyNext (.ref I)>>=_) _ _ s
    have lS:S < s.heap.objs.size:=Heap.lt_size gS
    -- what follows a turn
    have after:∀ h',Itr h' I d S n ep (i+1)→h'.get? s.heap.objs.size=some { cls:=.type "tuple",data:=.seq #[es[i].key,es[i].val] }→(∀ b o,b≠I→s.heap.get? b=some o→h'.get? b=some o)→
        wpAny (model prog w) A.in1 (do Builtin.List.listUpdate (.ref S) (·.push (.ref s.heap.objs.size)); again (.builtin "list.extend.loop" ⟨[.ref S,.ref I,res],[]⟩)) (fun fin s'=>match fin with | .done f=>R (.ok f) s' | .again c'=>c'.quiet=true∧codeAny (model prog w) A c' R s') (fun e s'=>R (.error e) s') { s with heap:=h' }:=fun h' it' tp kp=>by
      have gS':=kp S _ IS.symm gS
      refine wpAny_bind (PyProof.Rows.listUpdate_at (s:={ s with heap:=h' }) gS' rfl ?_ (by rw [sa]; lia) (by rw [Array.size_push,sa]; lia))
      obtain ⟨c2,g2⟩:∃ c2,(h'.update S (Obj.mapSeq (·.push (.ref s.heap.objs.size)))).get? S=some (PyProof.Rows.seqObj "list" (acc.push (.ref s.heap.objs.size)) c2):=⟨_,PyProof.Rows.get?_update_seq gS' (·.push (.ref s.heap.objs.size))⟩
      have sb:Heap.SameBut S h' (h'.update S (Obj.mapSeq (·.push (.ref s.heap.objs.size)))):=Heap.SameBut.update ..
      have nt:s.heap.objs.size≠S:=Nat.ne_of_gt lS
      generalize h'.update S (Obj.mapSeq (·.push (.ref s.heap.objs.size)))=h2 at g2 sb
      have kp2:∀ b o,b≠I→b≠S→s.heap.get? b=some o→h2.get? b=some o:=fun b o n1 n2 e=>(sb.2 b n2).trans (kp b o n1 e)
      refine wpAny_pure ⟨plainId_quiet PySem.F.plain_extend_loop _,ih (i+1) { s with heap:=h2 } (acc.push (.ref s.heap.objs.size)) c2 (by lia) (by lia) (kp2 d _ dI' dS gd) ?_ g2 (by rw [Array.size_push,sa]) ?_ (Nat.le_of_lt (Nat.lt_of_le_of_lt hN (Heap.lt_size ((sb.2 _ nt).trans tp)))) ?_ fun h3 acc' c' kp3 g3 p3 n3=>fin h3 acc' c' (fun b o n1 n2 e=>kp3 b o n1 n2 (kp2 b o n1 n2 e)) g3 p3 n3⟩
      · rcases it' with ⟨z,_⟩ | ⟨z,a0,fb,ok,ov,oa,hI,al,n1,n2⟩
        · lia
        · exact .inr ⟨z,a0,fb,ok,ov,oa,(sb.2 I IS).trans hI,(sb.2 a0 n2).trans al,n1,n2⟩
      · rw [Array.toList_push,List.take_add_one,pi]
        refine prs_append (pa.kept fun p o e2 cc=>kp2 p o (fun z=>?_) (fun z=>?_) e2) (.cons ⟨s.heap.objs.size,_,t,u,0,rfl,(sb.2 _ nt).trans tp,rfl,by rw [ek,ev]⟩ .nil)
        · rw [z] at e2
          rcases it with ⟨_,hI⟩ | ⟨_,a0,fb,ok,ov,oa,hI,_⟩
          · rw [hI] at e2; cases e2; exact absurd (Value.type.inj cc) (by decide)
          · rw [hI] at e2; cases e2; exact absurd (Value.type.inj cc) (by decide)
        · rw [z,gS] at e2
          cases e2
          exact absurd (Value.type.inj cc) (by decide)
      · intro v hv
        rw [Array.toList_push] at hv
        rcases List.mem_append.mp hv with hv | hv
        · exact na v hv
        · exact ⟨_,List.mem_singleton.mp hv,hN⟩
    rcases it with ⟨rfl,hI⟩ | ⟨z,a0,fb,ok,ov,oa,hI,al,n1,n2⟩
    · refine wpAny_bind (items_first (A:=A.in1) hI gd hdd hn lt fun h' e1 tp kp=>?_)
      have lI:I < s.heap.objs.size:=Heap.lt_size hI
      exact after h' (.inr ⟨by lia,s.heap.objs.size,false,_,_,_,e1,tp,Nat.ne_of_gt lI,Nat.ne_of_gt lS⟩) tp kp
    · refine wpAny_bind (items_more (A:=A.in1) hI gd hdd hn lt al n1 fun h' e1 tp kp=>?_)
      exact after h' (.inr ⟨by lia,a0,true,ok,ov,oa,e1,kp a0 _ n1 al,n1,n2⟩) tp kp
end
end Se
namespace Se
open PySem PySem.Spec
noncomputable def DN (prog:Program)(w:World)(h:Heap)(d:Addr)(ps:List (Int×Int)):Prop:=∃ kvs:List (Int×Value),h.DictOf (intKind prog w) d kvs∧kvs.length=ps.length∧∀ (i:Nat) (a:Int) (x:Value),kvs[i]?=some (a,x)→∃ (b:Int) (u:Tok),ps[i]?=some (a,b)∧x=Value.int b u
section
variable {prog:Program}{w:World}{A:Around}{E:Value→Shared→Prop}{s:Shared}
theorem DN.keys {h:Heap}{d:Addr}{ps:List (Int×Int)}(x:DN prog w h d ps):(ps.map (·.1)).Nodup:=by
  obtain ⟨kvs,⟨o,es,ep,ho,hc,hd,hk,hp,hn⟩,hl,he⟩:=x
  have e:ps.map (·.1)=kvs.map (·.1):=by
    refine List.ext_getElem? fun i=>?_
    rw [List.getElem?_map,List.getElem?_map]
    by_cases hi:i < kvs.length
    · have g:=List.getElem?_eq_getElem hi
      obtain ⟨b,u,e1,_⟩:=he i kvs[i].1 kvs[i].2 (by rw [g])
      rw [e1,g]
      rfl
    · rw [List.getElem?_eq_none (by omega),List.getElem?_eq_none (by omega)]
      rfl
  rw [e]
  exact hn
theorem collect_items {v d:Addr}{ps:List (Int×Int)}(hh:A.handled=none)(hv:s.heap.IsItemsView v d)(hD:DN prog w s.heap d ps)(hz:ps.length≤1000){Q:List Value→Shared→Prop}
    (k:∀ vs h',(∀ b o,s.heap.get? b=some o→h'.get? b=some o)→s.heap.objs.size≤h'.objs.size→Prs h' vs ps→(∀ v∈vs,∃ p,v=Value.ref p∧s.heap.objs.size≤p)→Q vs { s with heap:=h' }):wpAny (model prog w) A (collect (.ref v)) Q E s:=by
  obtain ⟨kvs,⟨od,es,ep,gd,hc,hdd,hk,hp,hn⟩,hl,he⟩:=hD
  obtain ⟨ov,gv,cv,dv⟩:=hv
  have vS:v < s.heap.objs.size:=Heap.lt_size gv
  have dS:d < s.heap.objs.size:=Heap.lt_size gd
  have esz:es.size=kvs.length:=by rw [←hp.length]; simp
  have EP:EsP es ps:=by
    refine ⟨by rw [esz,hl],fun i hi=>?_⟩
    have g:=List.getElem?_eq_getElem (l:=kvs) (i:=i) (by omega)
    obtain ⟨b,u,e1,e2⟩:=he i kvs[i].1 kvs[i].2 (by rw [g])
    obtain ⟨q1,q2⟩:=hp.get? (e:=es[i]) (by simp [hi]) g
    obtain ⟨t,q1⟩:=Value.isInt_shape q1
    exact ⟨kvs[i].1,b,t,u,e1,q1,by rw [q2]; exact e2⟩
  unfold collect
  refine wpAny_bind (wpAny_runValue (codeAny_builtin PySem.F.entry_proto_collect ?_))
  rw [Around.under_plainId PySem.F.plain_proto_collect _]
  show wpAny _ A.in1 (newList []>>=fun l=>again (.builtin "list.__iadd__" ⟨[l,.ref v],[]⟩)) _ _ s
  refine wpAny_bind (wpAny_newObj_type ?_)
  refine wpAny_pure ⟨plainId_quiet PySem.F.plain_list_iadd _,codeAny_builtin PySem.F.entry_list_iadd ?_⟩
  rw [Around.under_plainId PySem.F.plain_list_iadd _]
  show wpAny _ A.in1 (Builtin.List.listExtendWith (.ref s.heap.objs.size) (.ref v) (.ref s.heap.objs.size)) _ _ _
  have gv1:(s.heap.push eL0).get? v=some ov:=Heap.get?_push_of_some _ gv
  have gd1:(s.heap.push eL0).get? d=some od:=Heap.get?_push_of_some _ gd
  have g1:(s.heap.push eL0).get? s.heap.objs.size=some eL0:=Heap.get?_push_size _ rfl
  have z1:(s.heap.push eL0).objs.size=s.heap.objs.size+1:=size_push'' _ _
  have hT1:Shared.TypeIs { s with heap:=s.heap.push eL0 } (.ref v) "dict_items" := ⟨ov,gv1,cv⟩
  have nS:Builtin.List.listSameRef (.ref s.heap.objs.size) (.ref v)=false:=by
    simp [Builtin.List.listSameRef]
    exact Nat.ne_of_gt vS
  unfold Builtin.List.listExtendWith
  refine wpAny_bind (wpAny_typeOf hT1 ?_)
  rw [if_neg (by rw [nS]; decide)]
  refine wpAny_bind (wpAny_pyIter_items (knd:=intKind prog w) (s:={ s with heap:=s.heap.push eL0 }) ⟨ov,gv1,cv,dv⟩ ⟨od,es,gd1,hc,hdd,hk,hp,hn⟩ ?_)
  refine wpAny_bind (wpAny_holding ?_)
  generalize hg:(s.heap.push eL0).push { cls:=.type "dict_itemiterator",data:=.fields #[.none,.bool false,.ref d,.int 0 0,.int kvs.length 0,.int ep 0,.none,.none] }=h1
  have kp1:∀ b o,(s.heap.push eL0).get? b=some o→h1.get? b=some o:=fun b o e=>by rw [←hg]; exact Heap.get?_push_of_some _ e
  have gI:h1.get? (s.heap.objs.size+1)=some (dI .none (.bool false) d 0 kvs.length ep .none .none):=by
    rw [←hg,←z1]
    exact Heap.get?_push_size _ rfl
  have sz1:h1.objs.size=s.heap.objs.size+2:=by rw [←hg,size_push'',z1]
  have hT2:Shared.TypeIs { s with heap:=h1 } (.ref v) "dict_items" := ⟨ov,kp1 _ _ gv1,cv⟩
  unfold Builtin.List.listLengthHint
  refine wpAny_bind (wpAny_specialOf hT2 PySem.F.slot_dict_items_len.lookup ?_)
  (generalize hid:("dict_items.__len__" : String)=id0; (fail_if_success (clear hid id0)); wp_delta; rw [show splitId id0=some ("dict_items","__len__") from by subst hid; decide +kernel]; subst hid)
  refine wpAny_bind (wpAny_isInstance (b:=true) hT2 (by rw [isSubtype_type]; kernel_rfl) ?_)
  refine wpAny_bind (wpAny_typeOf hT2 ?_)
  refine wpAny_pure ?_
  rw [if_pos (by decide)]
  refine wpAny_bind (wpAny_rule ?_)
  have g2:h1.get? s.heap.objs.size=some eL0:=kp1 _ _ g1
  have o1:(1:Nat)≤sizeLine:=by rw [sizeLine_eq]; decide
  unfold Builtin.List.listTouch
  obtain ⟨c1,g3⟩:∃ c,(h1.update s.heap.objs.size (Obj.mapSeq (·.push Value.none))).get? s.heap.objs.size=some (PyProof.Rows.seqObj "list" #[.none] c):=⟨_,PyProof.Rows.get?_update_seq (c := "list") (xs:=#[]) (n:=0) g2 (·.push Value.none)⟩
  show wpAny _ _ _ _ _ { s with heap:=h1 }
  refine wpAny_bind (wpAny_bind (PyProof.Rows.listUpdate_at (s:={ s with heap:=h1 }) g2 rfl ?_ (Nat.zero_le _) (Nat.le_succ_of_le o1)))
  obtain ⟨c2,g4⟩:∃ c,((h1.update s.heap.objs.size (Obj.mapSeq (·.push Value.none))).update s.heap.objs.size (Obj.mapSeq (·.pop))).get? s.heap.objs.size=some (PyProof.Rows.seqObj "list" #[] c):=⟨_,PyProof.Rows.get?_update_seq g3 (·.pop)⟩
  refine PyProof.Rows.listUpdate_at (s:={ s with heap:=h1.update s.heap.objs.size (Obj.mapSeq (·.push Value.none)) }) g3 rfl ?_ o1 (Nat.zero_le _)
  have sb:Heap.SameBut s.heap.objs.size h1 ((h1.update s.heap.objs.size (Obj.mapSeq (·.push Value.none))).update s.heap.objs.size (Obj.mapSeq (·.pop))):=(Heap.SameBut.update ..).trans (Heap.SameBut.update ..)
  have nI:s.heap.objs.size+1≠s.heap.objs.size:=Nat.succ_ne_self _
  generalize (h1.update s.heap.objs.size (Obj.mapSeq (·.push Value.none))).update s.heap.objs.size (Obj.mapSeq (·.pop))=h2 at g4 sb
  refine wpAny_pure ⟨plainId_quiet PySem.F.plain_extend_loop _,?_⟩
  show codeAny _ _ (.builtin "list.extend.loop" ⟨[.ref s.heap.objs.size,.ref (s.heap.push eL0).objs.size,.ref s.heap.objs.size],[]⟩) _ { s with heap:=h2 }
  rw [z1]
  refine items_loop hh hdd esz (Nat.le_trans (by rw [hl]; exact hz) (by rw [sizeLine_eq]; decide)) EP (Nat.ne_of_lt (Nat.lt_succ_of_lt dS)) (Nat.ne_of_lt dS) nI _ s.heap.objs.size kvs.length 0 { s with heap:=h2 } #[] c2 rfl (Nat.zero_le _) ((sb.2 d (Nat.ne_of_lt dS)).trans (kp1 _ _ gd1)) (.inl ⟨rfl,(sb.2 _ nI).trans gI⟩) g4 rfl .nil (Nat.le_of_lt (Heap.lt_size g4)) (fun v hv=>by simp at hv) fun h3 acc' c' kp3 g5 p3 n3=>?_
  show wpAny _ A (load s.heap.objs.size>>=_) _ _ _
  refine wpAny_bind (wpAny_load (s:={ s with heap:=h3 }) g5 (wpAny_pure ?_))
  refine k acc'.toList h3 (fun b o e=>?_) (Nat.le_of_lt (Heap.lt_size g5)) p3 n3
  have bl:=Heap.lt_size e
  exact kp3 b o (Nat.ne_of_lt (Nat.lt_succ_of_lt bl)) (Nat.ne_of_lt bl) ((sb.2 b (Nat.ne_of_lt bl)).trans (kp1 b o (Heap.get?_push_of_some _ e)))
theorem sorted_items {v d:Addr}{ps:List (Int×Int)}(hh:A.handled=none)(hv:s.heap.IsItemsView v d)(hD:DN prog w s.heap d ps)(h64:ps.length < 64){Q:Value→Shared→Prop}
    (k:∀ (L:Addr) (out:Array Value) (e:Nat) (h':Heap) (qs:List (Int×Int)),s.heap.objs.size≤L→(∀ b o,s.heap.get? b=some o→h'.get? b=some o)→h'.get? L=some (PyProof.Rows.seqObj "list" out e)→Prs h' out.toList qs→(∀ v∈out.toList,∃ p,v=Value.ref p∧s.heap.objs.size≤p)→qs.Perm ps→qs.Pairwise (fun x y=>x.1 < y.1)→Q (.ref L) { s with heap:=h' }):
    wpAny (model prog w) A (call (.builtin "sorted") [.ref v]) Q E s:=by
  refine Calls.call_function_entry PyProof.Rows.kind_sorted PyProof.Rows.plain_sorted PyProof.Rows.entry_sorted (PyProof.Rows.args_sorted1 _) ?_
  unfold Builtin.«sorted»
  refine wpAny_bind (m:=checkCount "sorted" 1 1 _) (wpAny_pure ?_)
  refine wpAny_bind (collect_items (by exact hh) hv hD (by omega) fun vs h1 kp sz hp nw=>?_)
  have vl:vs.length < 64:=by rw [hp.len]; exact h64
  refine wpAny_bind (wpAny_newList ?_)
  have g0:(h1.push (PyProof.Rows.seqObj "list" vs.toArray 0)).get? h1.objs.size=some (PyProof.Rows.seqObj "list" vs.toArray 0):=Heap.get?_push_size _ rfl
  have hp1:Prs (h1.push (PyProof.Rows.seqObj "list" vs.toArray 0)) vs ps:=hp.kept fun p o e _=>Heap.get?_push_of_some _ e
  refine wpAny_bind (wpAny_holding (wpAny_call_entry (s:={ s with heap:=h1.push (PyProof.Rows.seqObj "list" vs.toArray 0) }) PyProof.Rows.slot_list_sort ⟨_,g0,rfl⟩ PyProof.Rows.entry_list_sort (sort_pairs (s:={ s with heap:=h1.push (PyProof.Rows.seqObj "list" vs.toArray 0) }) g0 hp1 hD.keys vl fun out qs a1 a0 a2 a3=>⟨_,rfl,?_⟩) (PyProof.Rows.args_list_sort _)))
  obtain ⟨e,at1⟩:=PyProof.Rows.sortedHeap_at (vs:=vs) (out:=out) g0
  have old:∀ b o,b≠h1.objs.size→(h1.push (PyProof.Rows.seqObj "list" vs.toArray 0)).get? b=some o→(PyProof.Rows.sortedHeap (h1.push (PyProof.Rows.seqObj "list" vs.toArray 0)) h1.objs.size vs out).get? b=some o:=fun b o ne q=>by
    rw [PyProof.Rows.sortedHeap_old ne (Heap.lt_size q)]
    exact q
  refine wpAny_pure ⟨_,rfl,k h1.objs.size out e _ qs sz (fun b o q=>?_) at1 (a1.kept fun p o q c=>old p o (fun z=>?_) q) (fun v hv=>nw v (a0.mem_iff.mp hv)) a2 a3⟩
  · have q1:=kp b o q
    exact old b o (Nat.ne_of_lt (Heap.lt_size q1)) (Heap.get?_push_of_some _ q1)
  · have q:(h1.push (PyProof.Rows.seqObj "list" vs.toArray 0)).get? p=some o:=q
    rw [z,g0] at q
    cases q
    exact absurd (Value.type.inj c) (by decide)
end
end Se
namespace Se
open PySem
section
variable {prog:Program}{w:World}
inductive It2 (prog:Program)(w:World)(h:Heap):List (List Int)→List Value→Prop
  | nil:It2 prog w h [] []
  | cons {ks:List Int} {b:Addr} {r:List (List Int)} {vs:List Value}:IsTupleKey (intKind prog w) h ks b→It2 prog w h r vs→It2 prog w h (ks::r) (.ref b::vs)
noncomputable def IsT2 (prog:Program)(w:World)(h:Heap)(kss:List (List Int))(a:Addr):Prop:=∃ o items n,h.get? a=some o∧o.cls=.type "tuple" ∧ o.data=.seq items n∧It2 prog w h kss items.toList
theorem It2.inj {h:Heap}:∀ {x y:List (List Int)} {vs:List Value},It2 prog w h x vs→It2 prog w h y vs→x=y
  | _,_,_,.nil,.nil=>rfl
  | _,_,_,.cons p r,.cons q t=>by rw [p.inj q,It2.inj r t]
theorem It2.mono {h h':Heap}(k:∀ ks b,IsTupleKey (intKind prog w) h ks b→IsTupleKey (intKind prog w) h' ks b):∀ {x:List (List Int)} {vs:List Value},It2 prog w h x vs→It2 prog w h' x vs
  | _,_,.nil=>.nil
  | _,_,.cons p r=>.cons (k _ _ p) (It2.mono k r)
theorem IsT2.inj {h:Heap}{a:Addr}{x y:List (List Int)}(hx:IsT2 prog w h x a)(hy:IsT2 prog w h y a):x=y:=by
  obtain ⟨o,it,n,ho,_,hd,hi⟩:=hx
  obtain ⟨o',it',n',ho',_,hd',hi'⟩:=hy
  rw [ho] at ho'
  cases ho'
  rw [hd] at hd'
  cases hd'
  exact hi.inj hi'
theorem IsT2.typ {s:Shared}{a:Addr}{x:List (List Int)}(hx:IsT2 prog w s.heap x a):s.TypeIs (.ref a) "tuple" := let ⟨o,_,_,ho,hc,_⟩:=hx; ⟨o,ho,hc⟩
theorem IsT2.keeps {h h':Heap}{x:List (List Int)}{a d:Addr}{o:Obj}{es ep}(hx:IsT2 prog w h x a)(ho:h.get? d=some o)(hd:o.data=.dict es ep)(hs:Heap.SameBut d h h'):IsT2 prog w h' x a:=by
  obtain ⟨o',it,n,ha,hc,hdd,hi⟩:=hx
  have ne:a≠d:=fun z=>by
    rw [z,ho] at ha
    cases ha
    rw [hd] at hdd
    cases hdd
  exact ⟨o',it,n,(hs.2 a ne).trans ha,hc,hdd,hi.mono fun ks b p=>p.keeps ho hd hs⟩
noncomputable def hash2 (prog:Program)(w:World)(x:List (List Int)):Int:=reduceHash (Builtin.Tuple.tupleHashOf (x.map (tupleKeyHash (intKind prog w))))
noncomputable def draw2 (x:List (List Int)):Nat:=(x.map fun ks=>ks.length+1).sum+1
variable {A:Around}{E:Value→Shared→Prop}{s:Shared}
theorem hash_t2 {x:List (List Int)}{a:Addr}{Q:Int→Shared→Prop}(hu:A.units+8 < cLine)(hk:IsT2 prog w s.heap x a)(h:Q (hash2 prog w x) { s with toks:=s.toks+draw2 x }):wpAny (model prog w) A (pyHash (.ref a)) Q E s:=by
  have hT:=hk.typ
  obtain ⟨o,it,n,ho,_,hd,hi⟩:=hk
  unfold pyHash
  unfold pyHashByItsType
  refine wpAny_bind (wpAny_cRoomFor_or (.inr (by lia)) ?_)
  refine wpAny_bind (wpAny_specialOf hT PySem.F.slot_tuple_hash.lookup ?_)
  show wpAny _ _ (if (some (Value.builtin "tuple.__hash__") == some Value.none)=true then _ else _) Q E s
  rw [if_neg (by rw [beq_builtin_none]; exact Bool.false_ne_true)]
  refine wpAny_bind (wpAny_specialOf hT PySem.F.slot_tuple_hash.lookup ?_)
  refine wpAny_bind (wpAny_callSpecialIfBoundUnlessNone?_slot hT PySem.F.slot_tuple_hash (wpAny_call_entry PySem.F.slot_tuple_hash hT PySem.F.entry_tuple_hash ?_ (PySem.F.args_tuple_hash_1 _)))
  show wpAny _ _ (Builtin.Tuple.tupleItemsOf (.ref a)>>=_) _ _ s
  refine wpAny_bind (wpAny_tupleItemsOf ho hd (wpAny_bind ?_))
  rw [←Array.forIn_toList]
  refine wpAny_forIn_list _ (fun rest (b:Array Int) s'=>∃ done left,x=done++left∧It2 prog w s.heap left rest∧b.toList=done.map (tupleKeyHash (intKind prog w))∧s'={ s with toks:=s.toks+(done.map fun ks=>ks.length+1).sum }) _ ?_ ?_ _ _ ⟨[],x,rfl,hi,rfl,by simp⟩
  · rintro v rest b s' ⟨done,left,rfl,hl,hb,rfl⟩
    cases hl with
    | @cons ks c r vs p t=>
      refine wpAny_bind (wpAny_pyHash_tuple (s:={ s with toks:=s.toks+(done.map fun ks=>ks.length+1).sum }) ?_ p ?_)
      · show A.units+1 < cLine
        lia
      · refine wpAny_pure ⟨done++[ks],r,by simp,t,by simp [hb],by simp [Nat.add_assoc]⟩
  · rintro b s' ⟨done,left,rfl,hl,hb,rfl⟩
    cases hl
    rw [List.append_nil] at h
    have et:s.toks+(done.map fun ks=>ks.length+1).sum+1=s.toks+draw2 done:=by unfold draw2; lia
    show wpAny _ _ (retInt (Builtin.Tuple.tupleHashOf b.toList)) _ _ _
    rw [hb]
    refine wpAny_ret_mkInt ?_
    generalize hT2:Builtin.Tuple.tupleHashOf (done.map (tupleKeyHash (intKind prog w)))=T at*
    show wpAny _ _ (if (decide (-(2:Int) ^ 63≤T) && decide (T < 2 ^ 63))=true then _ else _) Q E _
    unfold hash2 reduceHash at h
    rw [hT2] at h
    by_cases z:(decide (-(2:Int) ^ 63≤T) && decide (T < 2 ^ 63))=true
    · rw [if_pos z] at h ⊢
      refine wpAny_pure ?_
      rw [←et] at h
      exact h
    · rw [if_neg z] at h ⊢
      refine wpAny_bind (wpAny_rule (wpAny_pure ?_))
      rw [←et] at h
      exact h
theorem eq_tree {x y:List (List Int)}{a b:Addr}{P:Fin→Shared→Prop}(hu:A.units+4 < cLine)(hx:IsT2 prog w s.heap x a)(hy:IsT2 prog w s.heap y b)(h:P (.done (.ret (.bool (decide (x=y))))) s):
    wpAny (model prog w) A (Builtin.«tuple.__eq__» ⟨[.ref a,.ref b],[]⟩) P E s:=by
  have hTb:=hy.typ
  obtain ⟨oa,xs,na,hoa,_,hda,hia⟩:=hx
  obtain ⟨ob,ys,nb,hob,_,hdb,hib⟩:=hy
  show wpAny _ _ (isInstance (.ref b) (.type "tuple")>>=_) _ _ s
  refine wpAny_bind (wpAny_isInstance hTb isSubtype_tuple_tuple ?_)
  simp only [Bool.not_true,Bool.false_eq_true,if_false]
  refine wpAny_bind (wpAny_tupleItemsOf hoa hda (wpAny_bind (wpAny_tupleItemsOf hob hdb (wpAny_bind ?_))))
  refine wpAny_forIn_list _ (fun rest r s'=>r.1=none∧s'=s∧∃ x' y' xs' ys',rest=List.zip xs' ys'∧It2 prog w s.heap x' xs'∧It2 prog w s.heap y' ys'∧decide (x'=y')=decide (x=y)∧(xs'.length == ys'.length)=(xs.size == ys.size)) _ ?_ ?_ _ _ ⟨rfl,rfl,x,y,xs.toList,ys.toList,rfl,hia,hib,rfl,by simp⟩
  · rintro ⟨u,v⟩ rest r s' ⟨hr,rfl,x',y',xs',ys',hz,hx',hy',hdec,hlen⟩
    cases hx' with
    | nil=>simp at hz
    | @cons k1 p x2 xs2 h1 t1=>
      cases hy' with
      | nil=>simp at hz
      | @cons k2 q y2 ys2 h2 t2=>
        simp only [List.zip_cons_cons,List.cons.injEq,Prod.mk.injEq] at hz
        obtain ⟨⟨rfl,rfl⟩,rfl⟩:=hz
        refine wpAny_bind (wpAny_eqBool_tuple (by lia) h1 h2 ?_)
        by_cases e:k1=k2
        · subst e
          rw [decide_eq_true rfl]
          simp only [Bool.not_true,Bool.false_eq_true,if_false]
          refine wpAny_pure ⟨rfl,rfl,x2,y2,xs2,ys2,rfl,t1,t2,?_,by simpa using hlen⟩
          rw [←hdec]
          simp
        · rw [decide_eq_false e]
          simp only [Bool.not_false,if_true]
          have f:decide (x=y)=false:=by rw [←hdec]; simp [e]
          rw [f] at h
          exact wpAny_bind (wpAny_pure (wpAny_pure (wpAny_pure h)))
  · rintro ⟨r1,r2⟩ s' ⟨hr,rfl,x',y',xs',ys',hz,hx',hy',hdec,hlen⟩
    simp only at hr
    subst hr
    refine wpAny_pure ?_
    have f:(xs.size == ys.size)=decide (x=y):=by
      rw [←hdec,←hlen]
      cases hx' with
      | nil=>
        cases hy' with
        | nil=>simp
        | cons _ _=>simp
      | cons _ _=>
        cases hy' with
        | nil=>simp
        | cons _ _=>simp at hz
    show P (.done (.ret (.bool (xs.size == ys.size)))) s'
    rw [f]
    exact h
theorem eq_t2 {x y:List (List Int)}{a b:Addr}{Q:Bool→Shared→Prop}(hu:A.units+8 < cLine)(hx:IsT2 prog w s.heap x a)(hy:IsT2 prog w s.heap y b)(h:Q (decide (x=y)) s):wpAny (model prog w) A (eqBool (.ref a) (.ref b)) Q E s:=by
  unfold eqBool
  refine wpAny_holding ?_
  show wpAny _ _ (if (Value.ref a == Value.ref b)=true then _ else _) Q E s
  by_cases ab:(Value.ref a == Value.ref b)=true
  · rw [if_pos ab]
    have e:a=b:=by
      have:=eq_of_beq ab
      injection this
    subst e
    cases hx.inj hy
    exact wpAny_bind (wpAny_rule (wpAny_pure (by simpa using h)))
  · rw [if_neg ab]
    exact wpAny_bind (wpAny_richCompare_same_room (op:=.Eq) hx.typ hy.typ PySem.F.slot_tuple_eq (wpAny_call_entry PySem.F.slot_tuple_eq hx.typ PySem.F.entry_tuple_eq (eq_tree (by show A.units+1+4 < cLine; lia) hx hy ⟨_,rfl,(fun e=>nomatch e),wpAny_truthy_bool h⟩) (PySem.F.args_tuple_eq_2 _ _)) (by lia))
theorem quiet_flat {n:Nat}{ks:List Int}{a:Addr}{Q:Bool→Shared→Prop}(hk:IsTupleKey (intKind prog w) s.heap ks a)(h:Q true s):wpAny (model prog w) A (eqIsQuiet (n+1) (.ref a)) Q E s:=by
  have hT:=hk.typeIs
  obtain ⟨o,items,m,ho,_,hd,hi⟩:=hk
  unfold eqIsQuiet
  refine wpAny_bind (wpAny_specialOf hT PySem.F.slot_tuple_eq.lookup ?_)
  show wpAny _ _ (isInstance (.ref a) (.type "tuple")>>=_) _ _ s
  refine wpAny_bind (wpAny_isInstance hT isSubtype_tuple_tuple ?_)
  simp only [Bool.not_true,Bool.false_eq_true,if_false]
  refine wpAny_bind (wpAny_seqItems ho hd (wpAny_bind ?_))
  show wpAny _ _ (forIn items _ _) _ _ s
  rw [←Array.forIn_toList]
  refine wpAny_forIn_list _ (fun rest r s'=>r.1=none∧s'=s∧∀ v∈rest,carriedByValue v=true) _ ?_ ?_ _ _ ⟨rfl,rfl,hi.byValue⟩
  · rintro v rest r s' ⟨hr,rfl,all⟩
    rw [eqIsQuiet_byValue _ (all v List.mem_cons_self)]
    refine wpAny_bind (wpAny_pure ?_)
    simp only [Bool.not_true,Bool.false_eq_true,if_false]
    exact wpAny_pure ⟨rfl,rfl,fun u q=>all u (List.mem_cons_of_mem _ q)⟩
  · rintro ⟨r1,r2⟩ s' ⟨hr,rfl,_⟩
    simp only at hr
    subst hr
    exact wpAny_pure h
theorem quiet_t2 {x:List (List Int)}{a:Addr}{Q:Bool→Shared→Prop}(hk:IsT2 prog w s.heap x a)(h:Q true s):wpAny (model prog w) A (eqIsQuiet 8 (.ref a)) Q E s:=by
  have hT:=hk.typ
  obtain ⟨o,items,m,ho,_,hd,hi⟩:=hk
  unfold eqIsQuiet
  refine wpAny_bind (wpAny_specialOf hT PySem.F.slot_tuple_eq.lookup ?_)
  show wpAny _ _ (isInstance (.ref a) (.type "tuple")>>=_) _ _ s
  refine wpAny_bind (wpAny_isInstance hT isSubtype_tuple_tuple ?_)
  simp only [Bool.not_true,Bool.false_eq_true,if_false]
  refine wpAny_bind (wpAny_seqItems ho hd (wpAny_bind ?_))
  show wpAny _ _ (forIn items _ _) _ _ s
  rw [←Array.forIn_toList]
  refine wpAny_forIn_list _ (fun rest r s'=>r.1=none∧s'=s∧∃ l,It2 prog w s.heap l rest) _ ?_ ?_ _ _ ⟨rfl,rfl,x,hi⟩
  · rintro v rest r s' ⟨hr,rfl,l,hl⟩
    cases hl with
    | cons p t=>
      refine wpAny_bind (quiet_flat p ?_)
      simp only [Bool.not_true,Bool.false_eq_true,if_false]
      exact wpAny_pure ⟨rfl,rfl,_,t⟩
  · rintro ⟨r1,r2⟩ s' ⟨hr,rfl,_⟩
    simp only at hr
    subst hr
    exact wpAny_pure h
end
noncomputable def boardKind (prog:Program)(w:World):HeapKind prog w (List (List Int)) where
  is:=IsT2 prog w
  hash:=hash2 prog w
  draws:=draw2
  room:=fun A=>A.units+8 < cLine
  inj:=fun hx hy=>hx.inj hy
  keeps:=fun x ho hd hs=>x.keeps ho hd hs
  pyHash:=fun hu hk h=>hash_t2 hu hk h
  eqBool:=fun hu hx hy h=>eq_t2 hu hx hy h
  quiet:=fun hk h=>quiet_t2 hk h
end Se
namespace Mi
open PySem L2
theorem us1 {α:Type}{p:List α→Prop}(h:∀ a,p [a]):∀ us:List α,us.length=1→p us
  | [a],_=>h a
theorem us2 {α:Type}{p:List α→Prop}(h:∀ a b,p [a,b])(us:List α)(e:us.length=2):p us:=by
  cases us with
  | nil=>cases e
  | cons a r=>exact us1 (p:=fun r=>p (a::r)) (fun b=>h a b) r (Nat.succ.inj e)
theorem us3 {α:Type}{p:List α→Prop}(h:∀ a b c,p [a,b,c])(us:List α)(e:us.length=3):p us:=by
  cases us with
  | nil=>cases e
  | cons a r=>exact us2 (p:=fun r=>p (a::r)) (fun b c=>h a b c) r (Nat.succ.inj e)
theorem us4 {α:Type}{p:List α→Prop}(h:∀ a b c d,p [a,b,c,d])(us:List α)(e:us.length=4):p us:=by
  cases us with
  | nil=>cases e
  | cons a r=>exact us3 (p:=fun r=>p (a::r)) (fun b c d=>h a b c d) r (Nat.succ.inj e)
theorem us5 {α:Type}{p:List α→Prop}(h:∀ a b c d e,p [a,b,c,d,e])(us:List α)(e:us.length=5):p us:=by
  cases us with
  | nil=>cases e
  | cons a r=>exact us4 (p:=fun r=>p (a::r)) (fun b c d x=>h a b c d x) r (Nat.succ.inj e)
inductive D where
  | non | bl (b:Bool) | int (i:Int) | str (x:Str) | tup (xs:List D) | fn (x:Str) | dct (kvs:List (Str×Int))
  deriving Inhabited
mutual
noncomputable def Is (K:PySem.W.Frag)(H:Hp):D→V→Prop
  | .non,v=>v=.non
  | .bl b,v=>v=.bl b
  | .int i,v=>v=.int i
  | .str x,v=>v=.str x
  | .tup ds,v=>∃ a vs,v=.ref a∧SqT K H a vs∧IsL K H ds vs
  | .fn x,v=>∃ a,v=.ref a∧PySem.W.nsIn K mainGlobals x=some (some (.ref a))
  | .dct kvs,v=>∃ a,v=.ref a∧H a=some (.dK (kvs.map fun p=>(Sum.inr p.1,V.int p.2)))
noncomputable def IsL (K:PySem.W.Frag)(H:Hp):List D→List V→Prop
  | [],vs=>vs=[]
  | d::ds,vs=>∃ v r,vs=v::r∧Is K H d v∧IsL K H ds r
end
structure Tk (H H':Hp):Prop where
  tup:∀ a xs,H a=some (.tup xs)→H' a=some (.tup xs)
  frz:∀ a o u,H a=some (.frz o u)→H' a=some (.frz o u)
  dk:∀ a kvs,H a=some (.dK kvs)→H' a=some (.dK kvs)
theorem Tk.same {H H':Hp}(e:Same H H'):Tk H H':=⟨fun a xs h=>e a _ h,fun a o u h=>e a _ h,fun a xs h=>e a _ h⟩
variable {K:PySem.W.Frag}{H H':Hp}
theorem SqT.tk {a:Addr}{xs:List V}(t:Tk H H')(h:SqT K H a xs):SqT K H' a xs:=by
  rcases h with (h | ⟨o,h⟩) | h
  · exact .inl (.inl (t.tup _ _ h))
  · exact .inl (.inr ⟨o,t.frz _ _ _ h⟩)
  · exact .inr h
mutual
theorem Is.tk (t:Tk H H'):∀ {d:D} {v:V},Is K H d v→Is K H' d v
  | .non,_,h=>h
  | .bl _,_,h=>h
  | .int _,_,h=>h
  | .str _,_,h=>h
  | .tup ds,v,h=>by
    obtain ⟨a,vs,e,q,r⟩:=h
    exact ⟨a,vs,e,SqT.tk t q,IsL.tk t r⟩
  | .fn _,_,h=>h
  | .dct _,_,h=>by
    obtain ⟨a,e,q⟩:=h
    exact ⟨a,e,t.dk _ _ q⟩
theorem IsL.tk (t:Tk H H'):∀ {ds:List D} {vs:List V},IsL K H ds vs→IsL K H' ds vs
  | [],_,h=>h
  | d::ds,vs,h=>by
    obtain ⟨v,r,e,q,l⟩:=h
    exact ⟨v,r,e,Is.tk t q,IsL.tk t l⟩
end
theorem IsL.length:∀ {ds:List D} {vs:List V},IsL K H ds vs→vs.length=ds.length
  | [],_,h=>by subst h; rfl
  | d::ds,vs,h=>by
    obtain ⟨v,r,rfl,_,l⟩:=h
    rw [List.length_cons,List.length_cons,IsL.length l]
theorem IsL.nil:IsL K H [] []:=rfl
theorem IsL.cons {d:D}{ds:List D}{v:V}{vs:List V}(h:Is K H d v)(l:IsL K H ds vs):IsL K H (d::ds) (v::vs):=⟨v,vs,rfl,h,l⟩
theorem IsL.append:∀ {ds:List D} {vs:List V} {es:List D} {us:List V},IsL K H ds vs→IsL K H es us→IsL K H (ds++es) (vs++us)
  | [],_,_,_,h,q=>by subst h; exact q
  | d::ds,vs,_,_,h,q=>by
    obtain ⟨v,r,rfl,h1,l⟩:=h
    exact IsL.cons h1 (IsL.append l q)
theorem IsL.get:∀ {ds:List D} {vs:List V} {i:Nat} {d:D},IsL K H ds vs→ds[i]?=some d→∃ v,vs[i]?=some v∧Is K H d v
  | [],_,_,_,_,e=>by simp at e
  | d::ds,vs,0,_,h,e=>by
    obtain ⟨v,r,rfl,h1,l⟩:=h
    simp at e; subst e
    exact ⟨v,rfl,h1⟩
  | d::ds,vs,i+1,x,h,e=>by
    obtain ⟨v,r,rfl,h1,l⟩:=h
    obtain ⟨u,q,z⟩:=IsL.get (i:=i) l (by simpa using e)
    exact ⟨u,by simpa using q,z⟩
theorem IsL.set {d:D}{v:V}(h:Is K H d v):∀ {ds:List D} {vs:List V} (i:Nat),IsL K H ds vs→IsL K H (ds.set i d) (vs.set i v)
  | [],_,_,l=>by subst l; rfl
  | _::_,_,0,l=>by
    obtain ⟨u,r,rfl,_,l⟩:=l
    exact IsL.cons h l
  | _::_,_,i+1,l=>by
    obtain ⟨u,r,rfl,h1,l⟩:=l
    exact IsL.cons h1 (IsL.set h i l)
theorem IsL.take:∀ {ds:List D} {vs:List V} (n:Nat),IsL K H ds vs→IsL K H (ds.take n) (vs.take n)
  | _,_,0,_=>by simp [IsL]
  | [],_,_+1,l=>by subst l; simp [IsL]
  | _::_,_,n+1,l=>by
    obtain ⟨u,r,rfl,h1,l⟩:=l
    exact IsL.cons h1 (IsL.take n l)
theorem IsL.drop:∀ {ds:List D} {vs:List V} (n:Nat),IsL K H ds vs→IsL K H (ds.drop n) (vs.drop n)
  | _,_,0,l=>l
  | [],_,_+1,l=>by subst l; simp [IsL]
  | _::_,_,n+1,l=>by
    obtain ⟨u,r,rfl,h1,l⟩:=l
    exact IsL.drop n l
theorem IsL.eraseIdx:∀ {ds:List D} {vs:List V} (n:Nat),IsL K H ds vs→IsL K H (ds.eraseIdx n) (vs.eraseIdx n)
  | [],_,_,l=>by subst l; simp [IsL]
  | _::_,_,0,l=>by
    obtain ⟨u,r,rfl,h1,l⟩:=l
    exact l
  | _::_,_,n+1,l=>by
    obtain ⟨u,r,rfl,h1,l⟩:=l
    exact IsL.cons h1 (IsL.eraseIdx n l)
theorem IsL.reverse:∀ {ds:List D} {vs:List V},IsL K H ds vs→IsL K H ds.reverse vs.reverse
  | [],_,l=>by subst l; rfl
  | _::_,_,l=>by
    obtain ⟨u,r,rfl,h1,l⟩:=l
    rw [List.reverse_cons,List.reverse_cons]
    exact IsL.append (IsL.reverse l) (IsL.cons h1 IsL.nil)
theorem IsL.ints {ns:List Int}:∀ {vs:List V},IsL K H (ns.map D.int) vs→vs=ns.map V.int:=by
  induction ns with
  | nil=>intro vs h; exact h
  | cons n r ih=>
    intro vs h
    obtain ⟨u,r,rfl,h1,l⟩:=h
    have e:u=.int n:=h1
    subst e
    rw [List.map_cons,ih l]
theorem IsL.ofInts (ns:List Int):IsL K H (ns.map D.int) (ns.map V.int):=by
  induction ns with
  | nil=>exact rfl
  | cons n r ih=>exact IsL.cons (show V.int n=.int n from rfl) ih
noncomputable def LsA (K:PySem.W.Frag)(H:Hp)(O:Addr→Prop)(a:Addr)(vs:List V):Prop:=
  (H a=some (.lst vs)∧¬ O a)∨(∃ o,H a=some (.frz o (.lst vs)))∨
    ∃ (o:Obj) (its:Array Value) (n:Nat),K.lookup a=some o∧o.cls=.type "list" ∧ o.dict=none∧o.data=.seq its n∧its.size≤sizeLine∧Vals vs its.toList
theorem LsA.sq {O:Addr→Prop}{a:Addr}{vs:List V}(h:LsA K H O a vs):SqL K H a vs:=by
  rcases h with ⟨h,_⟩ | ⟨o,h⟩ | h
  · exact .inl (.inl h)
  · exact .inl (.inr ⟨o,h⟩)
  · exact .inr h
theorem LsA.weak {O O':Addr→Prop}{a:Addr}{vs:List V}(h:LsA K H O a vs)(w:∀ a,O' a→O a):LsA K H O' a vs:=by
  rcases h with ⟨h,n⟩ | h
  · exact .inl ⟨h,fun z=>n (w _ z)⟩
  · exact .inr h
inductive DM where
  | bd (ks:List (List (List Int))) | nn (ps:List (Int×Int))
noncomputable def hashB (x:List (List Int)):Int:=reduceHash (Builtin.Tuple.tupleHashOf (x.map fun ks=>reduceHash (Builtin.Tuple.tupleHashOf (ks.map hashInt))))
noncomputable def phB (p:Addr)(xs:List (List (List Int)×Addr×Value))(h:Heap):Prop:=
  (p == sysModules)=false∧∃ o es ep,h.get? p=some o∧o.ExactDict∧o.data=.dict es ep∧es.toList=xs.map (fun x=>(⟨hashB x.1,.ref x.2.1,x.2.2⟩:DictEntry))∧(xs.map (·.1)).Nodup
noncomputable def phN (p:Addr)(ps:List (Int×Int))(h:Heap):Prop:=
  (p == sysModules)=false∧∃ o es ep,h.get? p=some o∧o.ExactDict∧o.data=.dict es ep∧es.size=ps.length∧(∀ (i:Nat) (e:DictEntry) (q:Int×Int),es[i]?=some e→ps[i]?=some q→∃ t u,e=⟨hashInt q.1,.int q.1 t,.int q.2 u⟩)∧(ps.map (·.1)).Nodup
noncomputable def bdK (x:List (List Int)):D:=.tup (x.map fun r=>.tup (r.map .int))
noncomputable def DcAt (K:PySem.W.Frag)(H:Hp)(p:Addr):DM→Prop
  | .bd ks=>∃ xs,H p=some (.ext (phB p xs))∧xs.map (·.1)=ks∧∀ x∈xs,Is K H (bdK x.1) (.ref x.2.1)
  | .nn ps=>H p=some (.ext (phN p ps))
theorem DcAt.tk {p:Addr}{m:DM}(t:Tk H H')(e:H' p=H p)(h:DcAt K H p m):DcAt K H' p m:=by
  cases m with
  | bd ks=>
    obtain ⟨xs,h1,h2,h3⟩:=h
    exact ⟨xs,e.trans h1,h2,fun x hx=>(h3 x hx).tk t⟩
  | nn ps=>exact e.trans h
noncomputable def LO (o:Option HO):Prop:=(∃ vs,o=some (.lst vs))∨∃ φ,o=some (.ext φ)
theorem LO.ne {o:Option HO}(h:LO o):o≠none:=by
  rcases h with ⟨_,e⟩ | ⟨_,e⟩<;>(rw [e]; exact fun z=>nomatch z)
theorem LO.eq {a:Addr}(h:LO (H a))(e:Same H H'):H' a=H a:=by
  rcases h with ⟨_,q⟩ | ⟨_,q⟩<;>rw [q,e _ _ q]
theorem LO.same {a:Addr}(h:LO (H a))(e:Same H H'):LO (H' a):=by rw [h.eq e]; exact h
theorem DcAt.lo {p:Addr}{m:DM}(h:DcAt K H p m):LO (H p):=by
  cases m with
  | bd ks=>obtain ⟨xs,h1,_⟩:=h; exact .inr ⟨_,h1⟩
  | nn ps=>exact .inr ⟨_,h⟩
inductive Slot where
  | val (d:D) | fz (ds:List D) | fz2 (dss:List (List D)) | own (ds:List D) | own2 (dss:List (List D)) | any | dct (m:DM)
  deriving Inhabited
noncomputable def FzL (K:PySem.W.Frag)(H:Hp)(O:Addr→Prop):List (List D)→List V→Prop
  | [],vs=>vs=[]
  | ds::dss,vs=>∃ a us r,vs=.ref a::r∧LsA K H O a us∧IsL K H ds us∧FzL K H O dss r
noncomputable def OwL (K:PySem.W.Frag)(H:Hp):List (List D)→List Addr→Prop
  | [],qs=>qs=[]
  | ds::dss,qs=>∃ q us r,qs=q::r∧H q=some (.lst us)∧IsL K H ds us∧OwL K H dss r
noncomputable def SlotOk (K:PySem.W.Frag)(H:Hp)(O:Addr→Prop):Slot→V→List Addr→Prop
  | .val d,v,f=>Is K H d v∧f=[]
  | .fz ds,v,f=>(∃ a vs,v=.ref a∧LsA K H O a vs∧IsL K H ds vs)∧f=[]
  | .fz2 dss,v,f=>(∃ a vs,v=.ref a∧LsA K H O a vs∧FzL K H O dss vs)∧f=[]
  | .own ds,v,f=>∃ p vs,v=.ref p∧H p=some (.lst vs)∧IsL K H ds vs∧f=[p]
  | .own2 dss,v,f=>∃ p qs,v=.ref p∧H p=some (.lst (qs.map .ref))∧OwL K H dss qs∧f=p::qs
  | .any,_,f=>f=[]
  | .dct m,v,f=>∃ p,v=.ref p∧DcAt K H p m∧f=[p]
noncomputable abbrev En:=List (Option Slot)
structure Fr (H:Hp)(O:Addr→Prop)(fp:Nat→List Addr)(H':Hp)(O':Addr→Prop)(fp':Nat→List Addr):Prop where
  keep:∀ b o,H b=some o→¬ O b→H' b=some o
  new:∀ b,O' b→O b∨H b=none
  flt:∀ a,O a→(∀ i,a∉fp i)→H' a=H a∧O' a∧∀ i,a∉fp' i
variable {O O' O1 O2:Addr→Prop}{fp fp' fp1 fp2:Nat→List Addr}{H1 H2:Hp}
theorem Fr.refl:Fr H O fp H O fp:=⟨fun _ _ h _=>h,fun _ h=>.inl h,fun _ h n=>⟨rfl,h,n⟩⟩
theorem Fr.trans (a:Fr H O fp H1 O1 fp1)(b:Fr H1 O1 fp1 H2 O2 fp2):Fr H O fp H2 O2 fp2:=by
  refine ⟨fun c o h n=>b.keep c o (a.keep c o h n) fun z=>?_,fun c z=>?_,fun c h n=>?_⟩
  · rcases a.new c z with q | q
    · exact n q
    · rw [h] at q; cases q
  · rcases b.new c z with q | q
    · exact a.new c q
    · cases e:H c with
      | none=>exact .inr rfl
      | some o=>
        by_cases y:O c
        · exact .inl y
        · rw [a.keep c o e y] at q; cases q
  · obtain ⟨e1,o1,n1⟩:=a.flt c h n
    obtain ⟨e2,o2,n2⟩:=b.flt c o1 n1
    exact ⟨e2.trans e1,o2,n2⟩
theorem Fr.tk (F:Fr H O fp H' O' fp')(l:∀ b,O b→LO (H b)):Tk H H':=by
  refine ⟨fun a xs h=>F.keep a _ h fun z=>?_,fun a o u h=>F.keep a _ h fun z=>?_,fun a xs h=>F.keep a _ h fun z=>?_⟩
  · rcases l a z with ⟨_,e⟩ | ⟨_,e⟩<;>(rw [h] at e; cases e)
  · rcases l a z with ⟨_,e⟩ | ⟨_,e⟩<;>(rw [h] at e; cases e)
  · rcases l a z with ⟨_,e⟩ | ⟨_,e⟩<;>(rw [h] at e; cases e)
theorem LsA.fr {a:Addr}{vs:List V}(F:Fr H O fp H' O' fp')(l:∀ b,O b→LO (H b))(h:LsA K H O a vs):LsA K H' O' a vs:=by
  rcases h with ⟨h,n⟩ | ⟨o,h⟩ | h
  · refine .inl ⟨F.keep a _ h n,fun z=>?_⟩
    rcases F.new a z with q | q
    · exact n q
    · rw [h] at q; cases q
  · exact .inr (.inl ⟨o,(F.tk l).frz _ _ _ h⟩)
  · exact .inr (.inr h)
theorem FzL.fr (F:Fr H O fp H' O' fp')(l:∀ b,O b→LO (H b)):∀ {dss:List (List D)} {vs:List V},FzL K H O dss vs→FzL K H' O' dss vs
  | [],_,h=>h
  | ds::dss,vs,h=>by
    obtain ⟨a,us,r,e,h1,h2,h3⟩:=h
    exact ⟨a,us,r,e,LsA.fr F l h1,h2.tk (F.tk l),FzL.fr F l h3⟩
theorem FzL.weak (w:∀ a,O' a→O a):∀ {dss:List (List D)} {vs:List V},FzL K H O dss vs→FzL K H O' dss vs
  | [],_,h=>h
  | ds::dss,vs,h=>by
    obtain ⟨a,us,r,e,h1,h2,h3⟩:=h
    exact ⟨a,us,r,e,h1.weak w,h2,FzL.weak w h3⟩
theorem OwL.eq (t:Tk H H'):∀ {dss:List (List D)} {qs:List Addr},OwL K H dss qs→(∀ a∈qs,H' a=H a)→OwL K H' dss qs
  | [],_,h,_=>h
  | ds::dss,qs,h,e=>by
    obtain ⟨q,us,r,rfl,h1,h2,h3⟩:=h
    exact ⟨q,us,r,rfl,(e q (by simp)).trans h1,h2.tk t,OwL.eq t h3 fun a ha=>e a (by simp [ha])⟩
theorem SlotOk.fr (F:Fr H O fp H' O' fp')(l:∀ b,O b→LO (H b)){s:Slot}{v:V}{f:List Addr}(h:SlotOk K H O s v f)(hf:∀ a∈f,O a∧∀ i,a∉fp i):
    SlotOk K H' O' s v f:=by
  have t:=F.tk l
  cases s with
  | val d=>exact ⟨h.1.tk t,h.2⟩
  | fz ds=>
    obtain ⟨⟨a,vs,e,h1,h2⟩,h3⟩:=h
    exact ⟨⟨a,vs,e,LsA.fr F l h1,h2.tk t⟩,h3⟩
  | fz2 dss=>
    obtain ⟨⟨a,vs,e,h1,h2⟩,h3⟩:=h
    exact ⟨⟨a,vs,e,LsA.fr F l h1,FzL.fr F l h2⟩,h3⟩
  | own ds=>
    obtain ⟨p,vs,e,h1,h2,rfl⟩:=h
    obtain ⟨o1,o2⟩:=hf p (by simp)
    exact ⟨p,vs,e,(F.flt p o1 o2).1.trans h1,h2.tk t,rfl⟩
  | own2 dss=>
    obtain ⟨p,qs,e,h1,h2,rfl⟩:=h
    have k:∀ a∈p::qs,H' a=H a:=fun a ha=>(F.flt a (hf a ha).1 (hf a ha).2).1
    exact ⟨p,qs,e,(k p (by simp)).trans h1,h2.eq t fun a ha=>k a (by simp [ha]),rfl⟩
  | any=>exact h
  | dct m=>
    obtain ⟨p,e,h1,rfl⟩:=h
    exact ⟨p,e,h1.tk t (F.flt p (hf p (by simp)).1 (hf p (by simp)).2).1,rfl⟩
structure Rel (K:PySem.W.Frag)(B:Hp)(ρ:En)(σ:St)(H:Hp)(O:Addr→Prop)(fp:Nat→List Addr):Prop where
  len:ρ.length=σ.length
  slot:∀ i s,ρ[i]?=some (some s)→∃ v,σ[i]?=some (some v)∧SlotOk K H O s v (fp i)
  non:∀ i,(∀ s,ρ[i]?≠some (some s))→fp i=[]
  dis:∀ i j a,a∈fp i→a∈fp j→i=j
  nd:∀ i,(fp i).Nodup
  sub:∀ i a,a∈fp i→O a
  lst:∀ b,O b→LO (H b)
  new:∀ b,O b→B b=none
  keep:∀ b o,B b=some o→H b=some o
inductive R where
  | of (s:Slot) | bor (i:Nat)
  deriving Inhabited
noncomputable def fl (O:Addr→Prop)(fp:Nat→List Addr):Addr→Prop:=fun a=>O a∧∀ i,a∉fp i
noncomputable def ResOk (K:PySem.W.Frag)(H:Hp)(O:Addr→Prop)(fp:Nat→List Addr)(σ:St)(Z:Addr→Prop):R→V→Prop
  | .of s,v=>∃ f,SlotOk K H O s v f∧f.Nodup∧∀ a∈f,(O a∧∀ i,a∉fp i)∧¬ Z a
  | .bor i,v=>σ[i]?=some (some v)
variable {B:Hp}{ρ ρ':En}{σ:St}
theorem ResOk.fr (F:Fr H O fp H' O' fp')(l:∀ b,O b→LO (H b)){r:R}{v:V}{Z:Addr→Prop}(h:ResOk K H O fp σ Z r v):ResOk K H' O' fp' σ Z r v:=by
  cases r with
  | of s=>
    obtain ⟨f,h1,nd,h2⟩:=h
    exact ⟨f,h1.fr F l fun a ha=>(h2 a ha).1,nd,fun a ha=>⟨(F.flt a (h2 a ha).1.1 (h2 a ha).1.2).2,(h2 a ha).2⟩⟩
  | bor i=>exact h
theorem ResOk.back {r:R}{v:V}{Z Z':Addr→Prop}(h:ResOk K H O fp σ Z r v)(w:∀ a,Z' a→Z a):ResOk K H O fp σ Z' r v:=by
  cases r with
  | of s=>
    obtain ⟨f,h1,nd,h2⟩:=h
    exact ⟨f,h1,nd,fun a ha=>⟨(h2 a ha).1,fun z=>(h2 a ha).2 (w a z)⟩⟩
  | bor i=>exact h
theorem Fr.fl (F:Fr H O fp H' O' fp'):∀ a,fl O fp a→Mi.fl O' fp' a:=fun a z=>(F.flt a z.1 z.2).2
theorem Fr.set (F:Fr H O fp H' O' fp'){f:List Addr}(i:Nat)(h:∀ a∈f,¬ Mi.fl O fp a):Fr H O fp H' O' (fun j=>if j=i then f else fp' j):=
  ⟨F.keep,F.new,fun a z n=>⟨(F.flt a z n).1,(F.flt a z n).2.1,fun j=>by
    by_cases e:j=i
    · rw [if_pos e]; exact fun q=>h a q ⟨z,n⟩
    · rw [if_neg e]; exact (F.flt a z n).2.2 j⟩⟩
theorem SlotOk.grow (e:Same H H'){s:Slot}{v:V}{f:List Addr}(h:SlotOk K H O s v f):SlotOk K H' O s v f:=by
  have t:=Tk.same e
  have ls:∀ {a:Addr} {vs:List V},LsA K H O a vs→LsA K H' O a vs:=fun {a vs} h=>by
    rcases h with ⟨h,n⟩ | ⟨o,h⟩ | h
    · exact .inl ⟨e _ _ h,n⟩
    · exact .inr (.inl ⟨o,e _ _ h⟩)
    · exact .inr (.inr h)
  cases s with
  | val d=>exact ⟨h.1.tk t,h.2⟩
  | fz ds=>
    obtain ⟨⟨a,vs,e,h1,h2⟩,h3⟩:=h
    exact ⟨⟨a,vs,e,ls h1,h2.tk t⟩,h3⟩
  | fz2 dss=>
    obtain ⟨⟨a,vs,z,h1,h2⟩,h3⟩:=h
    refine ⟨⟨a,vs,z,ls h1,?_⟩,h3⟩
    have go:∀ {dss:List (List D)} {vs:List V},FzL K H O dss vs→FzL K H' O dss vs:=by
      intro dss
      induction dss with
      | nil=>intro vs h; exact h
      | cons ds dss ih=>
        intro vs h
        obtain ⟨a,us,r,e,h1,h2,h3⟩:=h
        exact ⟨a,us,r,e,ls h1,h2.tk t,ih h3⟩
    exact go h2
  | own ds=>
    obtain ⟨p,vs,z,h1,h2,rfl⟩:=h
    exact ⟨p,vs,z,e _ _ h1,h2.tk t,rfl⟩
  | own2 dss=>
    obtain ⟨p,qs,z,h1,h2,rfl⟩:=h
    refine ⟨p,qs,z,e _ _ h1,?_,rfl⟩
    have go:∀ {dss:List (List D)} {qs:List Addr},OwL K H dss qs→OwL K H' dss qs:=by
      intro dss
      induction dss with
      | nil=>intro vs h; exact h
      | cons ds dss ih=>
        intro vs h
        obtain ⟨a,us,r,z,h1,h2,h3⟩:=h
        exact ⟨a,us,r,z,e _ _ h1,h2.tk t,ih h3⟩
    exact go h2
  | any=>exact h
  | dct m=>
    obtain ⟨p,z,h1,rfl⟩:=h
    exact ⟨p,z,h1.tk t (h1.lo.eq e),rfl⟩
theorem Rel.grow (r:Rel K B ρ σ H O fp)(e:Same H H'):Rel K B ρ σ H' O fp:=
  ⟨r.len,fun i s h=>let ⟨v,a,b⟩:=r.slot i s h; ⟨v,a,b.grow e⟩,r.non,r.dis,r.nd,r.sub,fun b h=>(r.lst b h).same e,r.new,fun b o h=>e _ _ (r.keep b o h)⟩
theorem Fr.grow (r:Rel K B ρ σ H O fp)(e:Same H H'):Fr H O fp H' O fp:=
  ⟨fun b o h _=>e _ _ h,fun _ h=>.inl h,fun a h n=>⟨(r.lst a h).eq e,h,n⟩⟩
theorem SlotOk.more {s:Slot}{v:V}{f:List Addr}{N:Addr→Prop}(h:SlotOk K H O s v f)(n:∀ a,N a→H a=none∨O a):SlotOk K H (fun a=>O a∨N a) s v f:=by
  have ls:∀ {a:Addr} {vs:List V},LsA K H O a vs→LsA K H (fun a=>O a∨N a) a vs:=fun {a vs} h=>by
    rcases h with ⟨h,m⟩ | h
    · refine .inl ⟨h,fun z=>?_⟩
      rcases z with z | z
      · exact m z
      · rcases n a z with q | q
        · rw [h] at q; cases q
        · exact m q
    · exact .inr h
  cases s with
  | val d=>exact h
  | fz ds=>
    obtain ⟨⟨a,vs,e,h1,h2⟩,h3⟩:=h
    exact ⟨⟨a,vs,e,ls h1,h2⟩,h3⟩
  | fz2 dss=>
    obtain ⟨⟨a,vs,z,h1,h2⟩,h3⟩:=h
    refine ⟨⟨a,vs,z,ls h1,?_⟩,h3⟩
    have go:∀ {dss:List (List D)} {vs:List V},FzL K H O dss vs→FzL K H (fun a=>O a∨N a) dss vs:=by
      intro dss
      induction dss with
      | nil=>intro vs h; exact h
      | cons ds dss ih=>
        intro vs h
        obtain ⟨a,us,r,e,h1,h2,h3⟩:=h
        exact ⟨a,us,r,e,ls h1,h2,ih h3⟩
    exact go h2
  | own ds=>exact h
  | own2 dss=>exact h
  | any=>exact h
  | dct m=>exact h
theorem Rel.take (r:Rel K B ρ σ H O fp)(e:Same H H'){N:Addr→Prop}(n:∀ a,N a→H a=none)(l:∀ a,N a→LO (H' a)):Rel K B ρ σ H' (fun a=>O a∨N a) fp:=by
  refine ⟨r.len,fun i s h=>?_,r.non,r.dis,r.nd,fun i a h=>.inl (r.sub i a h),fun b h=>?_,fun b h=>?_,fun b o h=>e _ _ (r.keep b o h)⟩
  · obtain ⟨v,a,b⟩:=r.slot i s h
    exact ⟨v,a,(b.more (N:=N) fun a z=>.inl (n a z)).grow e⟩
  · rcases h with h | h
    · exact (r.lst b h).same e
    · exact l b h
  · rcases h with h | h
    · exact r.new b h
    · cases q:B b with
      | none=>rfl
      | some o=>
        have z:=r.keep b o q
        rw [n b h] at z; cases z
theorem Fr.take (r:Rel K B ρ σ H O fp)(e:Same H H'){N:Addr→Prop}(n:∀ a,N a→H a=none):Fr H O fp H' (fun a=>O a∨N a) fp:=
  ⟨fun b o h _=>e _ _ h,fun b h=>h.imp id (n b),fun a h m=>⟨(r.lst a h).eq e,.inl h,m⟩⟩
theorem Rel.set (r:Rel K B ρ σ H O fp){i:Nat}{s:Slot}{v:V}{f:List Addr}(hs:SlotOk K H O s v f)(nd:f.Nodup)(hf:∀ a∈f,O a∧∀ j,a∉fp j)(hi:i < ρ.length):
    Rel K B (ρ.set i (some s)) (σ.set i (some v)) H O (fun j=>if j=i then f else fp j):=by
  refine ⟨by simpa using r.len,fun j t h=>?_,fun j h=>?_,fun j k a h1 h2=>?_,fun j=>?_,fun j a h=>?_,r.lst,r.new,r.keep⟩
  · by_cases e:j=i
    · subst e
      rw [List.getElem?_set_self hi] at h
      cases h
      refine ⟨v,List.getElem?_set_self (by rw [←r.len]; exact hi),?_⟩
      rw [if_pos rfl]; exact hs
    · rw [List.getElem?_set_ne (Ne.symm e)] at h
      obtain ⟨u,q,z⟩:=r.slot j t h
      refine ⟨u,by rw [List.getElem?_set_ne (Ne.symm e)]; exact q,?_⟩
      rw [if_neg e]; exact z
  · by_cases e:j=i
    · subst e
      exact absurd (List.getElem?_set_self hi) (h s)
    · rw [if_neg e]
      refine r.non j fun t z=>h t ?_
      rw [List.getElem?_set_ne (Ne.symm e)]; exact z
  · skip
    by_cases e:j=i
    · by_cases e':k=i
      · rw [e,e']
      · rw [if_pos e] at h1; rw [if_neg e'] at h2
        exact absurd h2 ((hf a h1).2 k)
    · by_cases e':k=i
      · rw [if_neg e] at h1; rw [if_pos e'] at h2
        exact absurd h1 ((hf a h2).2 j)
      · rw [if_neg e] at h1; rw [if_neg e'] at h2
        exact r.dis j k a h1 h2
  · by_cases e:j=i
    · rw [if_pos e]; exact nd
    · rw [if_neg e]; exact r.nd j
  · skip
    by_cases e:j=i
    · rw [if_pos e] at h; exact (hf a h).1
    · rw [if_neg e] at h; exact r.sub j a h
theorem Rel.drop (r:Rel K B ρ σ H O fp)(i:Nat):Rel K B (ρ.set i none) σ H O (fun j=>if j=i then [] else fp j):=by
  refine ⟨by simpa using r.len,fun j t h=>?_,fun j h=>?_,fun j k a h1 h2=>?_,fun j=>?_,fun j a h=>?_,r.lst,r.new,r.keep⟩
  · by_cases e:j=i
    · subst e
      rw [List.getElem?_set] at h
      rw [if_pos rfl] at h
      split at h<;>cases h
    · rw [List.getElem?_set_ne (Ne.symm e)] at h
      obtain ⟨u,q,z⟩:=r.slot j t h
      refine ⟨u,q,?_⟩
      rw [if_neg e]; exact z
  · by_cases e:j=i
    · rw [if_pos e]
    · rw [if_neg e]
      refine r.non j fun t z=>h t ?_
      rw [List.getElem?_set_ne (Ne.symm e)]; exact z
  · skip
    by_cases e:j=i
    · rw [if_pos e] at h1; simp at h1
    · by_cases e':k=i
      · rw [if_pos e'] at h2; simp at h2
      · rw [if_neg e] at h1; rw [if_neg e'] at h2
        exact r.dis j k a h1 h2
  · by_cases e:j=i
    · rw [if_pos e]; exact List.nodup_nil
    · rw [if_neg e]; exact r.nd j
  · skip
    by_cases e:j=i
    · rw [if_pos e] at h; simp at h
    · rw [if_neg e] at h; exact r.sub j a h
end Mi
namespace Mi
open PySem L2
variable {K:PySem.W.Frag}{H H':Hp}{O O':Addr→Prop}{fp fp':Nat→List Addr}{B:Hp}{ρ ρ':En}{σ:St}
theorem tk_upd {p:Addr}{vs us:List V}(h:H p=some (.lst vs)):Tk H (upd H p (.lst us)):=by
  refine ⟨fun a xs q=>?_,fun a o u q=>?_,fun a xs q=>?_⟩
  · rw [upd_ne (ne_of q h (by intro z; cases z))]; exact q
  · rw [upd_ne (ne_of q h (by intro z; cases z))]; exact q
  · rw [upd_ne (ne_of q h (by intro z; cases z))]; exact q
theorem SlotOk.upd {s:Slot}{v:V}{f:List Addr}{p:Addr}{vs us:List V}(h:SlotOk K H O s v f)(hp:H p=some (.lst vs))(op:O p)(nf:p∉f):SlotOk K (upd H p (.lst us)) O s v f:=by
  have t:=tk_upd (us:=us) hp
  have ls:∀ {a:Addr} {ws:List V},LsA K H O a ws→LsA K (L2.upd H p (.lst us)) O a ws:=fun {a ws} h=>by
    rcases h with ⟨h,n⟩ | ⟨o,h⟩ | h
    · have ne:a≠p:=fun z=>n (by rw [z]; exact op)
      exact .inl ⟨by rw [upd_ne ne]; exact h,n⟩
    · exact .inr (.inl ⟨o,t.frz _ _ _ h⟩)
    · exact .inr (.inr h)
  cases s with
  | val d=>exact ⟨h.1.tk t,h.2⟩
  | fz ds=>
    obtain ⟨⟨a,vs,e,h1,h2⟩,h3⟩:=h
    exact ⟨⟨a,vs,e,ls h1,h2.tk t⟩,h3⟩
  | fz2 dss=>
    obtain ⟨⟨a,vs,z,h1,h2⟩,h3⟩:=h
    refine ⟨⟨a,vs,z,ls h1,?_⟩,h3⟩
    have go:∀ {dss:List (List D)} {vs:List V},FzL K H O dss vs→FzL K (L2.upd H p (.lst us)) O dss vs:=by
      intro dss
      induction dss with
      | nil=>intro vs h; exact h
      | cons ds dss ih=>
        intro vs h
        obtain ⟨a,us,r,e,h1,h2,h3⟩:=h
        exact ⟨a,us,r,e,ls h1,h2.tk t,ih h3⟩
    exact go h2
  | own ds=>
    obtain ⟨q,ws,z,h1,h2,rfl⟩:=h
    exact ⟨q,ws,z,by rw [upd_ne (fun z=>nf (by simp [z]))]; exact h1,h2.tk t,rfl⟩
  | own2 dss=>
    obtain ⟨q,qs,z,h1,h2,rfl⟩:=h
    exact ⟨q,qs,z,by rw [upd_ne (fun z=>nf (by simp [z]))]; exact h1,h2.eq t fun a ha=>upd_ne (fun z=>nf (by simp [←z,ha])),rfl⟩
  | any=>exact h
  | dct m=>
    obtain ⟨q,z,h1,rfl⟩:=h
    exact ⟨q,z,h1.tk t (upd_ne (fun z=>nf (by simp [z]))),rfl⟩
theorem Fr.upd {p:Addr}{us:List V}{i:Nat}(op:O p)(hi:p∈fp i):Fr H O fp (upd H p (.lst us)) O fp:=
  ⟨fun b o h n=>by rw [upd_ne (fun z=>n (by rw [z]; exact op))]; exact h,fun _ h=>.inl h,fun a h n=>⟨upd_ne (fun z=>n i (by rw [z]; exact hi)),h,n⟩⟩
theorem Rel.upd (r:Rel K B ρ σ H O fp){i:Nat}{ds ds':List D}{p:Addr}{us:List V}(hs:ρ[i]?=some (some (.own ds)))(hv:σ[i]?=some (some (.ref p)))(hl:IsL K H ds' us):
    Rel K B (ρ.set i (some (.own ds'))) σ (L2.upd H p (.lst us)) O fp∧Fr H O fp (L2.upd H p (.lst us)) O fp:=by
  obtain ⟨v,e,q,vs,e2,h1,h2,ef⟩:=r.slot i _ hs
  rw [hv] at e; cases e; cases e2
  have pin:p∈fp i:=by rw [ef]; simp
  have op:O p:=r.sub i p pin
  refine ⟨⟨by simpa using r.len,fun j t h=>?_,fun j h=>?_,r.dis,r.nd,r.sub,fun b h=>?_,r.new,fun b o h=>?_⟩,Fr.upd op pin⟩
  · by_cases e:j=i
    · subst e
      rw [List.getElem?_set_self (by exact (List.getElem?_eq_some_iff.mp hs).1)] at h
      cases h
      exact ⟨_,hv,p,us,rfl,upd_same,hl.tk (tk_upd h1),ef⟩
    · rw [List.getElem?_set_ne (Ne.symm e)] at h
      obtain ⟨u,q,z⟩:=r.slot j t h
      exact ⟨u,q,z.upd h1 op fun w=>e (r.dis j i p w pin)⟩
  · refine r.non j fun t z=>?_
    by_cases e:j=i
    · subst e
      exact h _ (List.getElem?_set_self (by exact (List.getElem?_eq_some_iff.mp hs).1))
    · exact h t (by rw [List.getElem?_set_ne (Ne.symm e)]; exact z)
  · by_cases e:b=p
    · exact .inl ⟨us,by rw [e]; exact upd_same⟩
    · rw [upd_ne e]; exact r.lst b h
  · rw [upd_ne (fun z=>by have w:=r.new p op; rw [←z,h] at w; cases w)]
    exact r.keep b o h
noncomputable def dr (ρ:En):R→Option Slot
  | .of s=>some s
  | .bor i=>(ρ[i]?).join
theorem Rel.dr (r:Rel K B ρ σ H O fp){x:R}{v:V}{s:Slot}{Z:Addr→Prop}(h:ResOk K H O fp σ Z x v)(e:dr ρ x=some s):∃ f,SlotOk K H O s v f:=by
  cases x with
  | of t=>
    obtain ⟨f,h1,_⟩:=h
    cases e
    exact ⟨f,h1⟩
  | bor i=>
    have e:(ρ[i]?).join=some s:=e
    have e':ρ[i]?=some (some s):=by
      cases q:ρ[i]? with
      | none=>rw [q] at e; cases e
      | some o=>
        rw [q] at e
        cases o with
        | none=>cases e
        | some t=>cases e; rfl
    obtain ⟨u,h1,h2⟩:=r.slot i s e'
    have h:σ[i]?=some (some v):=h
    rw [h] at h1; cases h1
    exact ⟨_,h2⟩
noncomputable abbrev O0:Addr→Prop:=fun _=>False
noncomputable def rdS:Slot→Slot
  | .own ds=>.fz ds
  | .own2 dss=>.fz2 dss
  | .dct _=>.any
  | s=>s
theorem FzL.ofOw:∀ {dss:List (List D)} {qs:List Addr},OwL K H dss qs→FzL K H O0 dss (qs.map .ref)
  | [],_,h=>by
    have h':_=[]:=h
    subst h'; exact rfl
  | ds::dss,qs,h=>by
    obtain ⟨q,us,r,rfl,h1,h2,h3⟩:=h
    exact ⟨q,us,_,rfl,.inl ⟨h1,fun z=>z⟩,h2,FzL.ofOw h3⟩
noncomputable def RdOk (K:PySem.W.Frag)(H:Hp)(s:Slot)(v:V):Prop:=SlotOk K H O0 s v []
theorem SlotOk.rd {s:Slot}{v:V}{f:List Addr}(h:SlotOk K H O s v f):RdOk K H (rdS s) v:=by
  cases s with
  | val d=>exact ⟨h.1,rfl⟩
  | fz ds=>
    obtain ⟨⟨a,vs,e,h1,h2⟩,h3⟩:=h
    exact ⟨⟨a,vs,e,h1.weak fun _ z=>z.elim,h2⟩,rfl⟩
  | fz2 dss=>
    obtain ⟨⟨a,vs,e,h1,h2⟩,h3⟩:=h
    exact ⟨⟨a,vs,e,h1.weak fun _ z=>z.elim,FzL.weak (fun _ z=>z.elim) h2⟩,rfl⟩
  | own ds=>
    obtain ⟨p,vs,e,h1,h2,_⟩:=h
    exact ⟨⟨p,vs,e,.inl ⟨h1,fun z=>z⟩,h2⟩,rfl⟩
  | own2 dss=>
    obtain ⟨p,qs,e,h1,h2,_⟩:=h
    exact ⟨⟨p,_,e,.inl ⟨h1,fun z=>z⟩,FzL.ofOw h2⟩,rfl⟩
  | any=>exact rfl
  | dct m=>exact rfl
noncomputable def RdL (K:PySem.W.Frag)(H:Hp):List Slot→List V→Prop
  | [],vs=>vs=[]
  | s::ss,vs=>∃ v r,vs=v::r∧RdOk K H s v∧RdL K H ss r
theorem RdL.length:∀ {ss:List Slot} {vs:List V},RdL K H ss vs→vs.length=ss.length
  | [],_,h=>by have h':_=[]:=h; subst h'; rfl
  | s::ss,vs,h=>by
    obtain ⟨v,r,rfl,_,l⟩:=h
    rw [List.length_cons,List.length_cons,RdL.length l]
noncomputable def Good (K:PySem.W.Frag)(H:Hp)(s:Slot)(Q:VK):Prop:=
  match s with
  | .val d=>∀ v H',Same H H'→Is K H' d v→Q v H'
  | .own ds=>∀ p vs H',Same H H'→H p=none→H' p=some (.lst vs)→IsL K H' ds vs→Q (.ref p) H'
  | .own2 dss=>∀ p qs H',Same H H'→(∀ a∈p::qs,H a=none)→(p::qs).Nodup→H' p=some (.lst (qs.map .ref))→OwL K H' dss qs→Q (.ref p) H'
  | .dct m=>∀ p H',Same H H'→H p=none→DcAt K H' p m→Q (.ref p) H'
  | _=>False
noncomputable def isNew:Slot→Prop
  | .fz _=>False
  | .fz2 _=>False
  | .any=>False
  | _=>True
theorem OwL.lst:∀ {dss:List (List D)} {qs:List Addr},OwL K H dss qs→∀ a∈qs,∃ vs,H a=some (.lst vs)
  | [],_,h,a,ha=>by have h':_=[]:=h; subst h'; simp at ha
  | ds::dss,qs,h,a,ha=>by
    obtain ⟨q,us,r,rfl,h1,h2,h3⟩:=h
    rcases List.mem_cons.mp ha with z | z
    · exact ⟨us,by rw [z]; exact h1⟩
    · exact OwL.lst h3 a z
theorem Rel.good (r:Rel K B ρ σ H O fp){s:Slot}{Q:VK}(k:∀ v H' O',Rel K B ρ σ H' O' fp→ResOk K H' O' fp σ (fl O fp) (.of s) v→Fr H O fp H' O' fp→Q v H')(hs:isNew s):Good K H s Q:=by
  have nof:∀ {a:Addr},H a=none→∀ i,a∉fp i:=fun {a} e i z=>by
    exact (r.lst a (r.sub i a z)).ne e
  have noO:∀ {a:Addr},H a=none→¬ O a:=fun {a} e z=>by
    exact (r.lst a z).ne e
  cases s with
  | val d=>exact fun v H' e h=>k v H' O (r.grow e) ⟨[],⟨h,rfl⟩,List.nodup_nil,fun a z=>by simp at z⟩ (Fr.grow r e)
  | fz ds=>exact hs.elim
  | fz2 dss=>exact hs.elim
  | own ds=>
    intro p vs H' e hn hp hl
    have n1:∀ a,a=p→H a=none:=fun a z=>by rw [z]; exact hn
    refine k (.ref p) H' (fun a=>O a∨a=p) (r.take e n1 fun a z=>.inl ⟨vs,by rw [z]; exact hp⟩) ⟨[p],⟨p,vs,rfl,hp,hl,rfl⟩,by simp,fun a z=>?_⟩ (Fr.take r e n1)
    have z':a=p:=by simpa using z
    subst z'
    exact ⟨⟨.inr rfl,nof hn⟩,fun z=>noO hn z.1⟩
  | own2 dss=>
    intro p qs H' e hn nd hp hl
    refine k (.ref p) H' (fun a=>O a∨a∈p::qs) (r.take e hn fun a z=>?_) ⟨p::qs,⟨p,qs,rfl,hp,hl,rfl⟩,nd,fun a z=>⟨⟨.inr z,nof (hn a z)⟩,fun q=>noO (hn a z) q.1⟩⟩ (Fr.take r e hn)
    rcases List.mem_cons.mp z with z | z
    · exact .inl ⟨_,by rw [z]; exact hp⟩
    · exact .inl (hl.lst a z)
  | any=>exact hs.elim
  | dct m=>
    intro p H' e hn hp
    have n1:∀ a,a=p→H a=none:=fun a z=>by rw [z]; exact hn
    refine k (.ref p) H' (fun a=>O a∨a=p) (r.take e n1 fun a z=>by rw [z]; exact hp.lo) ⟨[p],⟨p,rfl,hp,rfl⟩,by simp,fun a z=>?_⟩ (Fr.take r e n1)
    have z':a=p:=by simpa using z
    subst z'
    exact ⟨⟨.inr rfl,nof hn⟩,fun z=>noO hn z.1⟩
noncomputable abbrev M (α:Type):=En→Option (α×En)
noncomputable def mRd (i:Nat):M R:=fun ρ=>(ρ[i]?).join.bind fun s=>match s with
  | .own _=>some (.bor i,ρ)
  | .own2 _=>some (.bor i,ρ)
  | .dct _=>some (.bor i,ρ)
  | s=>some (.of s,ρ)
noncomputable def mVal (i:Nat):M R:=fun ρ=>(ρ[i]?).join.bind fun s=>match s with
  | .own ds=>some (.of (.own ds),ρ.set i none)
  | .own2 dss=>some (.of (.own2 dss),ρ.set i none)
  | .dct m=>some (.of (.dct m),ρ.set i none)
  | s=>some (.of s,ρ)
noncomputable def mC (d:D):M R:=fun ρ=>some (.of (.val d),ρ)
noncomputable def mNil:M (List R):=fun ρ=>some ([],ρ)
noncomputable def mCons (a:M R)(l:M (List R)):M (List R):=fun ρ=>(a ρ).bind fun x=>(l x.2).bind fun y=>some (x.1::y.1,y.2)
noncomputable def drs (ρ:En):List R→Option (List Slot)
  | []=>some []
  | r::rs=>(dr ρ r).bind fun s=>(drs ρ rs).bind fun ss=>some (rdS s::ss)
end Mi
namespace Mi
open PySem L2
variable {K:PySem.W.Frag}{H H':Hp}{O O':Addr→Prop}{fp fp':Nat→List Addr}{B:Hp}{ρ ρ':En}{σ:St}
inductive tQ (K:PySem.W.Frag)(f:M R)(σ:L2.St)(H:Hp)(Q:VK):Prop
  | mk:∀ B ρ O fp r ρ',(Rel K B ρ σ H O fp)→(f ρ=some (r,ρ'))→(∀ v H' O' fp',Rel K B ρ' σ H' O' fp'→ResOk K H' O' fp' σ (fl O fp) r v→Fr H O fp H' O' fp'→Q v H')→tQ K f σ H Q
noncomputable def ResL (K:PySem.W.Frag)(H:Hp)(O:Addr→Prop)(fp:Nat→List Addr)(σ:St)(Z:Addr→Prop):List R→List V→Prop
  | [],vs=>vs=[]
  | r::rs,vs=>∃ v us,vs=v::us∧ResOk K H O fp σ Z r v∧ResL K H O fp σ Z rs us
theorem ResL.back {Z Z':Addr→Prop}(w:∀ a,Z' a→Z a):∀ {rs:List R} {vs:List V},ResL K H O fp σ Z rs vs→ResL K H O fp σ Z' rs vs
  | [],_,h=>h
  | _::_,_,h=>by
    obtain ⟨v,us,e,h1,h2⟩:=h
    exact ⟨v,us,e,h1.back w,ResL.back w h2⟩
inductive tQL (K:PySem.W.Frag)(f:M (List R))(σ:L2.St)(H:Hp)(Q:List V→Hp→Prop):Prop
  | mk:∀ B ρ O fp rs ρ',(Rel K B ρ σ H O fp)→(f ρ=some (rs,ρ'))→(∀ vs H' O' fp',Rel K B ρ' σ H' O' fp'→ResL K H' O' fp' σ (fl O fp) rs vs→Fr H O fp H' O' fp'→Q vs H')→tQL K f σ H Q
inductive tQT (K:PySem.W.Frag)(f:M Bool)(σ:L2.St)(H:Hp)(Q:Bool→Hp→Prop):Prop
  | mk:∀ B ρ O fp b ρ',(Rel K B ρ σ H O fp)→(f ρ=some (b,ρ'))→(∀ H' O' fp',Rel K B ρ' σ H' O' fp'→Fr H O fp H' O' fp'→Q b H')→tQT K f σ H Q
noncomputable abbrev QE (X:Cx)(e:Expr)(f:M R):Prop:=PE X e (tQ X.K f)
noncomputable abbrev QA (X:Cx)(es:List Expr)(f:M (List R)):Prop:=PA X es (tQL X.K f)
noncomputable abbrev QT (X:Cx)(e:Expr)(f:M Bool):Prop:=PT X e (tQT X.K f)
theorem ResL.rd (r:Rel K B ρ σ H O fp):∀ {rs:List R} {vs:List V} {ss:List Slot} {Z:Addr→Prop},ResL K H O fp σ Z rs vs→drs ρ rs=some ss→RdL K H ss vs
  | [],vs,ss,_,h,e=>by
    have h':vs=[]:=h
    have e':some []=some ss:=e
    cases e'; subst h'
    exact rfl
  | x::rs,vs,ss,_,h,e=>by
    obtain ⟨v,us,rfl,h1,h2⟩:=h
    have e':((dr ρ x).bind fun s=>(drs ρ rs).bind fun ss=>some (rdS s::ss))=some ss:=e
    cases q:dr ρ x with
    | none=>rw [q] at e'; cases e'
    | some s=>
      rw [q] at e'
      cases q2:drs ρ rs with
      | none=>rw [q2] at e'; cases e'
      | some ts=>
        rw [q2] at e'
        cases e'
        obtain ⟨f,hs⟩:=r.dr h1 q
        exact ⟨v,us,rfl,hs.rd,ResL.rd r h2 q2⟩
noncomputable def fresh:Slot→Option Slot
  | .fz _=>none
  | .fz2 _=>none
  | .any=>none
  | s=>some s
theorem fresh_of {s t:Slot}(h:fresh s=some t):t=s∧isNew s:=by
  cases s<;>first | (cases h; exact ⟨rfl,trivial⟩) | cases h
section
variable {X:Cx}{e a b:Expr}{es:List Expr}{pos:Pos}
theorem _root_.L2.PE.imp {t t':TE}(h:PE X e t)(w:∀ σ H Q,t' σ H Q→t σ H Q):PE X e t':=fun pins s σ H Q I q=>h pins s σ H Q I (w σ H Q q)
theorem _root_.L2.PA.imp {t t':TA}(h:PA X es t)(w:∀ σ H Q,t' σ H Q→t σ H Q):PA X es t':=fun pos pins s σ H Q I q=>h pos pins s σ H Q I (w σ H Q q)
theorem _root_.L2.PT.imp {t t':TT}(h:PT X e t)(w:∀ σ H Q,t' σ H Q→t σ H Q):PT X e t':=fun pins s σ H Q I q=>h pins s σ H Q I (w σ H Q q)
theorem join_some {i:Nat}{s:Slot}(e:(ρ[i]?).join=some s):ρ[i]?=some (some s):=by
  cases q:ρ[i]? with
  | none=>rw [q] at e; cases e
  | some o=>
    rw [q] at e
    cases o with
    | none=>cases e
    | some t=>cases e; rfl
theorem q_rd {i:Nat}(h:PE X e (tVar i)):QE X e (mRd i):=h.imp fun σ H Q zq=>by
  obtain ⟨B,ρ,O,fp,r,ρ',R,hf,k⟩:=zq
  have hf':((ρ[i]?).join.bind fun s=>match s with
    | .own _=>some (Mi.R.bor i,ρ)
    | .own2 _=>some (.bor i,ρ)
    | .dct _=>some (.bor i,ρ)
    | s=>some (.of s,ρ))=some (r,ρ'):=hf
  cases q:(ρ[i]?).join with
  | none=>rw [q] at hf'; cases hf'
  | some s=>
    rw [q] at hf'
    obtain ⟨v,hv,hs⟩:=R.slot i s (join_some q)
    refine ⟨v,hv,?_⟩
    cases s with
    | val d=>cases hf'; exact k v H O fp R ⟨[],⟨hs.1,rfl⟩,List.nodup_nil,fun a z=>by simp at z⟩ Fr.refl
    | fz ds=>cases hf'; exact k v H O fp R ⟨[],⟨hs.1,rfl⟩,List.nodup_nil,fun a z=>by simp at z⟩ Fr.refl
    | fz2 ds=>cases hf'; exact k v H O fp R ⟨[],⟨hs.1,rfl⟩,List.nodup_nil,fun a z=>by simp at z⟩ Fr.refl
    | own ds=>cases hf'; exact k v H O fp R hv Fr.refl
    | own2 ds=>cases hf'; exact k v H O fp R hv Fr.refl
    | any=>cases hf'; exact k v H O fp R ⟨[],rfl,List.nodup_nil,fun a z=>by simp at z⟩ Fr.refl
    | dct m=>cases hf'; exact k v H O fp R hv Fr.refl
theorem q_val {i:Nat}(h:PE X e (tVar i)):QE X e (mVal i):=h.imp fun σ H Q zq=>by
  obtain ⟨B,ρ,O,fp,r,ρ',R,hf,k⟩:=zq
  have hf':((ρ[i]?).join.bind fun s=>match s with
    | .own ds=>some (Mi.R.of (.own ds),ρ.set i none)
    | .own2 dss=>some (.of (.own2 dss),ρ.set i none)
    | .dct m=>some (.of (.dct m),ρ.set i none)
    | s=>some (.of s,ρ))=some (r,ρ'):=hf
  have mv:∀ {s:Slot} {v:V},SlotOk X.K H O s v (fp i)→σ[i]?=some (some v)→
      Rel X.K B (ρ.set i none) σ H O (fun j=>if j=i then [] else fp j)∧ResOk X.K H O (fun j=>if j=i then [] else fp j) σ (fl O fp) (.of s) v∧Fr H O fp H O (fun j=>if j=i then [] else fp j):=fun {s v} hs hv=>by
    refine ⟨R.drop i,⟨fp i,hs,R.nd i,fun a ha=>⟨⟨R.sub i a ha,fun j=>?_⟩,fun z=>z.2 i ha⟩⟩,fun _ _ z _=>z,fun _ z=>.inl z,fun a z n=>⟨rfl,z,fun j=>?_⟩⟩
    · show a∉if j=i then [] else fp j
      by_cases e:j=i
      · rw [if_pos e]; simp
      · rw [if_neg e]; exact fun z=>e (R.dis j i a z ha)
    · show a∉if j=i then [] else fp j
      by_cases e:j=i
      · rw [if_pos e]; simp
      · rw [if_neg e]; exact n j
  cases q:(ρ[i]?).join with
  | none=>rw [q] at hf'; cases hf'
  | some s=>
    rw [q] at hf'
    obtain ⟨v,hv,hs⟩:=R.slot i s (join_some q)
    refine ⟨v,hv,?_⟩
    cases s with
    | val d=>cases hf'; exact k v H O fp R ⟨[],⟨hs.1,rfl⟩,List.nodup_nil,fun a z=>by simp at z⟩ Fr.refl
    | fz ds=>cases hf'; exact k v H O fp R ⟨[],⟨hs.1,rfl⟩,List.nodup_nil,fun a z=>by simp at z⟩ Fr.refl
    | fz2 ds=>cases hf'; exact k v H O fp R ⟨[],⟨hs.1,rfl⟩,List.nodup_nil,fun a z=>by simp at z⟩ Fr.refl
    | own ds=>cases hf'; obtain ⟨a,b,c⟩:=mv hs hv; exact k v H O _ a b c
    | own2 ds=>cases hf'; obtain ⟨a,b,c⟩:=mv hs hv; exact k v H O _ a b c
    | any=>cases hf'; exact k v H O fp R ⟨[],rfl,List.nodup_nil,fun a z=>by simp at z⟩ Fr.refl
    | dct m=>cases hf'; obtain ⟨a,b,c⟩:=mv hs hv; exact k v H O _ a b c
theorem q_c {d:D}{v:V}(h:PE X e (tC v))(hd:∀ H,Is X.K H d v):QE X e (mC d):=h.imp fun σ H Q zq=>by
  obtain ⟨B,ρ,O,fp,r,ρ',R,hf,k⟩:=zq
  cases hf
  exact k v H O fp R ⟨[],⟨hd H,rfl⟩,List.nodup_nil,fun a z=>by simp at z⟩ Fr.refl
theorem q_int {i:Int}{j:Nat}:QE X (.Constant (.int i) j pos) (mC (.int i)):=q_c pe_int fun _=>rfl
theorem q_bl {i:Bool}{j:Nat}:QE X (.Constant (.bool i) j pos) (mC (.bl i)):=q_c pe_bl fun _=>rfl
theorem bind_some {α β:Type}{x:Option α}{f:α→Option β}{b:β}(h:x.bind f=some b):∃ a,x=some a∧f a=some b:=by
  cases x with
  | none=>cases h
  | some a=>exact ⟨a,rfl,h⟩
theorem qa_nil:QA X [] mNil:=pa_nil.imp fun σ H Q zq=>by
  obtain ⟨B,ρ,O,fp,r,ρ',R,hf,k⟩:=zq
  cases hf
  exact k [] H O fp R rfl Fr.refl
theorem qa_cons {f:M R}{g:M (List R)}(ha:QE X e f)(hr:QA X es g)(hs:starEach (e::es) X.env=(false,eval e X.env)::starEach es X.env:=by rfl):QA X (e::es) (mCons f g):=
  (pa_cons ha hr hs).imp fun σ H Q zq=>by
    obtain ⟨B,ρ,O,fp,r,ρ',R,hf,k⟩:=zq
    obtain ⟨⟨x,ρ1⟩,h1,hf⟩:=bind_some hf
    obtain ⟨⟨y,ρ2⟩,h2,hf⟩:=bind_some hf
    cases hf
    refine ⟨B,ρ,O,fp,x,ρ1,R,h1,fun v H1 O1 fp1 R1 k1 F1=>⟨B,ρ1,O1,fp1,y,ρ2,R1,h2,fun vs H2 O2 fp2 R2 k2 F2=>?_⟩⟩
    exact k (v::vs) H2 O2 fp2 R2 ⟨v,vs,rfl,k1.fr F2 R1.lst,k2.back F1.fl⟩ (F1.trans F2)
noncomputable def SR (K:PySem.W.Frag)(g:List Slot→Option Slot)(r:List V→Hp→VK→Prop):Prop:=
  ∀ H ss vs s Q,RdL K H ss vs→g ss=some s→Good K H s Q→r vs H Q
noncomputable def mOpF (g:List Slot→Option Slot)(args:M (List R)):M R:=fun ρ=>(args ρ).bind fun x=>(drs x.2 x.1).bind fun ss=>(g ss).bind fun s=>(fresh s).bind fun t=>some (.of t,x.2)
theorem q_opN {f:M (List R)}{g:List Slot→Option Slot}{r:List V→Hp→VK→Prop}(hg:SR X.K g r)(h:PE X e (fun σ H Q=>tQL X.K f σ H fun vs H1=>r vs H1 Q)):QE X e (mOpF g f):=
  h.imp fun σ H Q zq=>by
    obtain ⟨B,ρ,O,fp,x,ρ',R,hf,k⟩:=zq
    obtain ⟨⟨rs,ρ1⟩,h1,hf⟩:=bind_some hf
    obtain ⟨ss,h2,hf⟩:=bind_some hf
    obtain ⟨s,h3,hf⟩:=bind_some hf
    obtain ⟨t,h4,hf⟩:=bind_some hf
    cases hf
    obtain ⟨rfl,hn⟩:=fresh_of h4
    refine ⟨B,ρ,O,fp,rs,ρ1,R,h1,fun vs H1 O1 fp1 R1 k1 F1=>?_⟩
    exact hg H1 ss vs t Q (ResL.rd R1 k1 h2) h3 (R1.good (fun v H' O' R' k' F'=>k v H' O' fp1 R' (k'.back F1.fl) (F1.trans F')) hn)
noncomputable def r2 (r:R2):List V→Hp→VK→Prop:=fun vs H Q=>∃ x y,vs=[x,y]∧r x y H Q
noncomputable def r1 (r:V→Hp→VK→Prop):List V→Hp→VK→Prop:=fun vs H Q=>∃ x,vs=[x]∧r x H Q
theorem two_of {ta tb:TE}{f g:M R}(hf:∀ σ H Q,tQ K f σ H Q→ta σ H Q)(hg:∀ σ H Q,tQ K g σ H Q→tb σ H Q){r:R2}{σ:St}{H:Hp}{Q:VK}
    (h:tQL K (mCons f (mCons g mNil)) σ H fun vs H1=>r2 r vs H1 Q):ta σ H fun x H1=>tb σ H1 fun y H2=>r x y H2 Q:=by
  obtain ⟨B,ρ,O,fp,rs,ρ',R,hq,k⟩:=h
  obtain ⟨⟨x,ρ1⟩,h1,hq⟩:=bind_some hq
  obtain ⟨⟨z,ρ2⟩,h2,hq⟩:=bind_some hq
  obtain ⟨⟨y,ρ3⟩,h3,h4⟩:=bind_some h2
  cases h4
  cases hq
  refine hf _ _ _ ⟨B,ρ,O,fp,x,ρ1,R,h1,fun v H1 O1 fp1 R1 k1 F1=>hg _ _ _ ⟨B,ρ1,O1,fp1,y,_,R1,h3,fun u H2 O2 fp2 R2 k2 F2=>?_⟩⟩
  obtain ⟨x',y',e,q⟩:=k [v,u] H2 O2 fp2 R2 ⟨v,[u],rfl,k1.fr F2 R1.lst,u,[],rfl,k2.back F1.fl,rfl⟩ (F1.trans F2)
  cases e
  exact q
theorem q_bin {op:Operator}{r:R2}{f g:M R}{w:List Slot→Option Slot}(ho:OpR X (binaryOp op) r)(hw:SR X.K w (r2 r))(ha:QE X a f)(hb:QE X b g):QE X (.BinOp a op b pos) (mOpF w (mCons f (mCons g mNil))):=
  q_opN hw ((pe_op ho ha hb).imp fun σ H Q h=>two_of (fun _ _ _ q=>q) (fun _ _ _ q=>q) h)
theorem q_cmp {op:CmpOp}{r:R2}{f g:M R}{w:List Slot→Option Slot}(ho:OpR X (compareOp op) r)(hw:SR X.K w (r2 r))(ha:QE X a f)(hb:QE X b g)(hm:behindInMarks op b=false):QE X (.Compare a [op] [b] pos) (mOpF w (mCons f (mCons g mNil))):=
  q_opN hw ((pe_cmpR ho ha hb hm).imp fun σ H Q h=>two_of (fun _ _ _ q=>q) (fun _ _ _ q=>q) h)
theorem q_ix {r:R2}{f g:M R}{w:List Slot→Option Slot}(ho:IxR X r)(hw:SR X.K w (r2 r))(ha:QE X a f)(hb:QE X b g)(hs:PlainIx b):QE X (.Subscript a b pos) (mOpF w (mCons f (mCons g mNil))):=
  q_opN hw ((pe_ix ho ha hb hs).imp fun σ H Q h=>two_of (fun _ _ _ q=>q) (fun _ _ _ q=>q) h)
theorem q_un {op:UnaryOp}{r:V→Hp→VK→Prop}{f:M R}{w:List Slot→Option Slot}(ho:UnR X (unaryOp op) r)(hw:SR X.K w (r1 r))(ha:QE X a f):QE X (.UnaryOp op a pos) (mOpF w (mCons f mNil)):=
  q_opN hw ((pe_un ho ha).imp fun σ H Q zq=>by
    obtain ⟨B,ρ,O,fp,rs,ρ',R,hq,k⟩:=zq
    obtain ⟨⟨x,ρ1⟩,h1,hq⟩:=bind_some hq
    cases hq
    refine ⟨B,ρ,O,fp,x,ρ1,R,h1,fun v H1 O1 fp1 R1 k1 F1=>?_⟩
    obtain ⟨x',e,q⟩:=k [v] H1 O1 fp1 R1 ⟨v,[],rfl,k1,rfl⟩ F1
    cases e
    exact q)
section
variable {x:Str}{p:Pos}{id T:String}{r:List V→Hp→VK→Prop}{f:M (List R)}{w:List Slot→Option Slot}
theorem q_callB (hc:CallR X (.builtin id) r)(hw:SR X.K w r)(hg:Gl X x)(hm:X.mg x=none)(hv:bootBuiltins x=some (.builtin id))(ha:QA X (e::es) f)(hn:x ≠ "__name__" := by decide)(hdb:(x == ("__debug__" : Str))=false:=by decide)
    (he:starEach (e::es) X.env=(false,eval e X.env)::starEach es X.env:=by rfl) (hpl:(backTo pos (starEach es X.env)).any (·.1)=false:=by rfl):QE X (.Call (.Name x p) (e::es) [] pos) (mOpF w f):=
  q_opN hw (pe_callB hc hg hm hv ha hn hdb he hpl)
theorem q_callTy (hc:CallR X (.type T) r)(hw:SR X.K w r)(hg:Gl X x)(hm:X.mg x=none)(hv:bootBuiltins x=some (.type T))(ha:QA X (e::es) f)(hn:x ≠ "__name__" := by decide)(hdb:(x == ("__debug__" : Str))=false:=by decide)
    (he:starEach (e::es) X.env=(false,eval e X.env)::starEach es X.env:=by rfl) (hpl:(backTo pos (starEach es X.env)).any (·.1)=false:=by rfl):QE X (.Call (.Name x p) (e::es) [] pos) (mOpF w f):=
  q_opN hw (pe_callTy hc hg hm hv ha hn hdb he hpl)
end
inductive spF (K:PySem.W.Frag)(n:Nat)(F:List Slot→Option Slot)(vs:List V)(H:Hp)(Q:VK)(x3:XK):Prop
  | mk:∀ ss s,(ss.length=n)→(RdL K H ss vs)→(F ss=some s)→(Good K H s Q)→spF K n F vs H Q x3
section
variable {CX:CXT}{k n:Nat}{f:Addr}{fd:FuncData}{ps:List Str}{x:Str}{p:Pos}{F:List Slot→Option Slot}{m:M (List R)}
noncomputable def ofLen (n:Nat)(F:List Slot→Option Slot):List Slot→Option Slot:=fun ss=>if ss.length=n then F ss else none
theorem q_call (G:FnOk X.prog X.w X.K X.mg X.base CX0 k f fd ps (spF X.K n F))(hr:Room k X.A)(hg:Gl X x)(hm:X.mg x=some (.ref f))(hk:PySem.W.keepIn X.K (.ref f)=true)(hb:Binds X.K fd ps [])
    (ha:QA X (e::es) m) (hdb:(x == ("__debug__" : Str))=false:=by decide) (he:starEach (e::es) X.env=(false,eval e X.env)::starEach es X.env:=by rfl) (hpl:(backTo pos (starEach es X.env)).any (·.1)=false:=by rfl):
    QE X (.Call (.Name x p) (e::es) [] pos) (mOpF (ofLen n F) m):=
  q_opN (r:=fun vs H Q=>spF X.K n F vs H Q E0) (fun H ss vs s Q h e g=>by
    have e':(if ss.length=n then F ss else none)=some s:=e
    by_cases z:ss.length=n
    · rw [if_pos z] at e'
      exact ⟨ss,s,z,h,e',g⟩
    · rw [if_neg z] at e'; cases e')
    ((pe_call G hr hg hm hk hb .nil pass0 ha hdb he hpl).imp fun σ H Q h=>by
      obtain ⟨B,ρ,O,fp,rs,ρ',R,hf,k⟩:=h
      exact ⟨B,ρ,O,fp,rs,ρ',R,hf,fun vs H' O' fp' R' k' F'=>by
        show spF X.K n F (vs++[]) H' Q E0
        rw [List.append_nil]; exact k vs H' O' fp' R' k' F'⟩)
end
noncomputable def mTru (f:M R):M Bool:=fun ρ=>(f ρ).bind fun x=>match x.1 with
  | .of (.val (.bl b))=>some (b,x.2)
  | _=>none
noncomputable def mNot (f:M Bool):M Bool:=fun ρ=>(f ρ).bind fun x=>some (!x.1,x.2)
noncomputable def mAnd (f g:M Bool):M Bool:=fun ρ=>(f ρ).bind fun x=>if x.1=true then g x.2 else some (false,x.2)
noncomputable def mOr (f g:M Bool):M Bool:=fun ρ=>(f ρ).bind fun x=>if x.1=true then some (true,x.2) else g x.2
noncomputable def tTst (t:TE):TT:=fun σ H Q=>t σ H fun x H1=>∃ c,x=.bl c∧Q c H1
theorem tst_of {t:TE}{f:M R}(h:∀ σ H Q,tQ K f σ H Q→t σ H Q){σ:St}{H:Hp}{Q:Bool→Hp→Prop}(q:tQT K (mTru f) σ H Q):tTst t σ H Q:=by
  obtain ⟨B,ρ,O,fp,b,ρ',R,hf,k⟩:=q
  obtain ⟨⟨x,ρ1⟩,h1,hf⟩:=bind_some hf
  refine h _ _ _ ⟨B,ρ,O,fp,x,ρ1,R,h1,fun v H' O' fp' R' k' F'=>?_⟩
  cases x with
  | bor i=>cases hf
  | of s=>
    cases s with
    | val d=>
      cases d with
      | bl c=>
        cases hf
        obtain ⟨f,⟨hs,_⟩,_⟩:=k'
        exact ⟨_,hs,k H' O' fp' R' F'⟩
      | _=>cases hf
    | _=>cases hf
theorem qt_val {f:M R}(h:QE X e f)(he:∀ whole,isTrue e X.env whole=(do let v ←whole; standAt e.pos; holding [v] (truthy v)):=by intro _; rfl):QT X e (mTru f):=
  (pt_val h he).imp fun σ H Q q=>tst_of (fun _ _ _ z=>z) q
theorem qt_cmp {op:CmpOp}{r:R2}{f g:M R}{w:List Slot→Option Slot}(ho:OpR X (compareOp op) r)(hw:SR X.K w (r2 r))(ha:QE X a f)(hb:QE X b g)(hm:behindInMarks op b=false):QT X (.Compare a [op] [b] pos) (mTru (mOpF w (mCons f (mCons g mNil)))):=
  (pt_cmpR ho ha hb hm).imp fun σ H Q q=>tst_of (t:=tOp r (tQ X.K f) (tQ X.K g)) (fun σ H Q z=>two_of (r:=r) (fun _ _ _ q=>q) (fun _ _ _ q=>q) (by
    obtain ⟨B,ρ,O,fp,x,ρ',R,hf,k⟩:=z
    obtain ⟨⟨rs,ρ1⟩,h1,hf⟩:=bind_some hf
    obtain ⟨ss,h2,hf⟩:=bind_some hf
    obtain ⟨s,h3,hf⟩:=bind_some hf
    obtain ⟨t,h4,hf⟩:=bind_some hf
    cases hf
    obtain ⟨rfl,hn⟩:=fresh_of h4
    refine ⟨B,ρ,O,fp,rs,ρ1,R,h1,fun vs H1 O1 fp1 R1 k1 F1=>?_⟩
    exact hw H1 ss vs t Q (ResL.rd R1 k1 h2) h3 (R1.good (fun v H' O' R' k' F'=>k v H' O' fp1 R' (k'.back F1.fl) (F1.trans F')) hn))) q
theorem qt_not {f:M Bool}(h:QT X a f):QT X (.UnaryOp .Not a pos) (mNot f):=(pt_not h).imp fun σ H Q zq=>by
  obtain ⟨B,ρ,O,fp,b,ρ',R,hf,k⟩:=zq
  obtain ⟨⟨x,ρ1⟩,h1,hf⟩:=bind_some hf
  cases hf
  exact ⟨B,ρ,O,fp,x,ρ1,R,h1,fun H' O' fp' R' F'=>k H' O' fp' R' F'⟩
noncomputable abbrev QW (X:Cx)(e:Expr)(f:M Bool):Prop:=PW X e (tQT X.K f)
theorem _root_.L2.PW.imp {t t':TT}(h:PW X e t)(w:∀ σ H Q,t' σ H Q→t σ H Q):PW X e t':=fun wh pins s σ H Q I q=>h wh pins s σ H Q I (w σ H Q q)
theorem and_of {t u:TT}{f g:M Bool}(hf:∀ σ H Q,tQT K f σ H Q→t σ H Q)(hg:∀ σ H Q,tQT K g σ H Q→u σ H Q){σ:St}{H:Hp}{Q:Bool→Hp→Prop}(h:tQT K (mAnd f g) σ H Q):tAnd t u σ H Q:=by
  obtain ⟨B,ρ,O,fp,b,ρ',R,hq,k⟩:=h
  obtain ⟨⟨x,ρ1⟩,h1,hq⟩:=bind_some hq
  refine hf _ _ _ ⟨B,ρ,O,fp,x,ρ1,R,h1,fun H1 O1 fp1 R1 F1=>?_⟩
  cases x with
  | true=>
    rw [if_pos rfl] at hq
    rw [if_pos rfl]
    exact hg _ _ _ ⟨B,ρ1,O1,fp1,b,ρ',R1,hq,fun H2 O2 fp2 R2 F2=>k H2 O2 fp2 R2 (F1.trans F2)⟩
  | false=>
    rw [if_neg Bool.false_ne_true] at hq
    rw [if_neg Bool.false_ne_true]
    cases hq
    exact k H1 O1 fp1 R1 F1
theorem or_of {t u:TT}{f g:M Bool}(hf:∀ σ H Q,tQT K f σ H Q→t σ H Q)(hg:∀ σ H Q,tQT K g σ H Q→u σ H Q){σ:St}{H:Hp}{Q:Bool→Hp→Prop}(h:tQT K (mOr f g) σ H Q):tOr t u σ H Q:=by
  obtain ⟨B,ρ,O,fp,b,ρ',R,hq,k⟩:=h
  obtain ⟨⟨x,ρ1⟩,h1,hq⟩:=bind_some hq
  refine hf _ _ _ ⟨B,ρ,O,fp,x,ρ1,R,h1,fun H1 O1 fp1 R1 F1=>?_⟩
  cases x with
  | false=>
    rw [if_neg Bool.false_ne_true] at hq
    rw [if_neg Bool.false_ne_true]
    exact hg _ _ _ ⟨B,ρ1,O1,fp1,b,ρ',R1,hq,fun H2 O2 fp2 R2 F2=>k H2 O2 fp2 R2 (F1.trans F2)⟩
  | true=>
    rw [if_pos rfl] at hq
    rw [if_pos rfl]
    cases hq
    exact k H1 O1 fp1 R1 F1
variable {rest:List Expr}
theorem qw_and1 {f:M Bool}(h:QT X a f):QW X (.BoolOp .And [a] pos) f:=pw_and1 h
theorem qw_or1 {f:M Bool}(h:QT X a f):QW X (.BoolOp .Or [a] pos) f:=pw_or1 h
theorem qw_and {f g:M Bool}(ha:QT X a f)(hb:QW X (.BoolOp .And (b::rest) pos) g):QW X (.BoolOp .And (a::b::rest) pos) (mAnd f g):=(pw_and ha hb).imp fun _ _ _ q=>and_of (fun _ _ _ z=>z) (fun _ _ _ z=>z) q
theorem qw_or {f g:M Bool}(ha:QT X a f)(hb:QW X (.BoolOp .Or (b::rest) pos) g):QW X (.BoolOp .Or (a::b::rest) pos) (mOr f g):=(pw_or ha hb).imp fun _ _ _ q=>or_of (fun _ _ _ z=>z) (fun _ _ _ z=>z) q
theorem qt_w {f:M Bool}(h:QW X e f):QT X e f:=h.pt
noncomputable def mBl (f:M Bool):M R:=fun ρ=>(f ρ).bind fun x=>some (.of (.val (.bl x.1)),x.2)
theorem bl_res {b:Bool}{v:V}{Z:Addr→Prop}(h:v=.bl b):ResOk K H O fp σ Z (.of (.val (.bl b))) v:=⟨[],⟨h,rfl⟩,List.nodup_nil,fun a z=>by simp at z⟩
noncomputable def BlOf (K:PySem.W.Frag)(f:M Bool)(t:TE):Prop:=∀ σ H Q,(tQT K f σ H fun b H1=>Q (.bl b) H1)→t σ H Q
theorem q_bl_of {f:M Bool}{t:TE}(h:PE X e t)(w:BlOf X.K f t):QE X e (mBl f):=h.imp fun σ H Q zq=>by
  obtain ⟨B,ρ,O,fp,r,ρ',R,hf,k⟩:=zq
  obtain ⟨⟨x,ρ1⟩,h1,hf⟩:=bind_some hf
  cases hf
  exact w σ H Q ⟨B,ρ,O,fp,x,ρ1,R,h1,fun H' O' fp' R' F'=>k (.bl x) H' O' fp' R' (bl_res rfl) F'⟩
theorem bv_of {f:M R}:BlOf K (mTru f) (tQ K f):=fun σ H Q q=>by
  have z:=tst_of (K:=K) (t:=tQ K f) (f:=f) (fun _ _ _ z=>z) q
  obtain ⟨B,ρ,O,fp,r,ρ',R,hf,k⟩:=z
  exact ⟨B,ρ,O,fp,r,ρ',R,hf,fun v H' O' fp' R' k' F'=>by
    obtain ⟨c,e,q⟩:=k v H' O' fp' R' k' F'
    rw [e]; exact q⟩
structure QB (X:Cx)(e:Expr)(f:M Bool):Prop where
  ex:∃ t,PE X e t∧BlOf X.K f t
theorem QB.q {f:M Bool}(h:QB X e f):QE X e (mBl f):=let ⟨_,a,b⟩:=h.ex; q_bl_of a b
theorem qb_val {f:M R}(h:QE X e f):QB X e (mTru f):=⟨_,h,bv_of⟩
theorem qb_not {f:M Bool}(h:QB X a f):QB X (.UnaryOp .Not a pos) (mNot f):=by
  obtain ⟨t,h1,h2⟩:=h.ex
  refine ⟨_,pe_not h1,fun σ H Q zq=>?_⟩
  obtain ⟨B,ρ,O,fp,b,ρ',R,hf,k⟩:=zq
  obtain ⟨⟨x,ρ1⟩,q1,hf⟩:=bind_some hf
  cases hf
  exact h2 _ _ _ ⟨B,ρ,O,fp,x,ρ1,R,q1,fun H' O' fp' R' F'=>⟨x,rfl,k H' O' fp' R' F'⟩⟩
theorem qb_one {op:BoolOp}{f:M Bool}(h:QB X a f):QB X (.BoolOp op [a] pos) f:=let ⟨t,a,b⟩:=h.ex; ⟨t,pe_one a,b⟩
theorem qb_and {f g:M Bool}(ha:QB X a f)(hb:QB X (.BoolOp .And (b::rest) pos) g):QB X (.BoolOp .And (a::b::rest) pos) (mAnd f g):=by
  obtain ⟨t,h1,h2⟩:=ha.ex
  obtain ⟨u,g1,g2⟩:=hb.ex
  refine ⟨_,pe_and h1 g1,fun σ H Q zq=>?_⟩
  obtain ⟨B,ρ,O,fp,b,ρ',R,hq,k⟩:=zq
  obtain ⟨⟨x,ρ1⟩,q1,hq⟩:=bind_some hq
  refine h2 _ _ _ ⟨B,ρ,O,fp,x,ρ1,R,q1,fun H1 O1 fp1 R1 F1=>⟨x,rfl,?_⟩⟩
  cases x with
  | true=>
    rw [if_pos rfl] at hq
    rw [if_pos rfl]
    exact g2 _ _ _ ⟨B,ρ1,O1,fp1,b,ρ',R1,hq,fun H2 O2 fp2 R2 F2=>k H2 O2 fp2 R2 (F1.trans F2)⟩
  | false=>
    rw [if_neg Bool.false_ne_true] at hq
    rw [if_neg Bool.false_ne_true]
    cases hq
    exact k H1 O1 fp1 R1 F1
noncomputable def mIf (c:M Bool)(f g:M R):M R:=fun ρ=>(c ρ).bind fun x=>if x.1=true then f x.2 else g x.2
theorem q_if {c:Expr}{m:M Bool}{f g:M R}(hc:QT X c m)(ha:QE X a f)(hb:QE X b g):QE X (.IfExp c a b pos) (mIf m f g):=
  (pe_ifExp hc ha hb).imp fun σ H Q zq=>by
    obtain ⟨B,ρ,O,fp,r,ρ',R,hq,k⟩:=zq
    obtain ⟨⟨x,ρ1⟩,q1,hq⟩:=bind_some hq
    refine ⟨B,ρ,O,fp,x,ρ1,R,q1,fun H1 O1 fp1 R1 F1=>?_⟩
    cases x with
    | true=>
      rw [if_pos rfl] at hq
      rw [if_pos rfl]
      exact ⟨B,ρ1,O1,fp1,r,ρ',R1,hq,fun v H2 O2 fp2 R2 k2 F2=>k v H2 O2 fp2 R2 (k2.back F1.fl) (F1.trans F2)⟩
    | false=>
      rw [if_neg Bool.false_ne_true] at hq
      rw [if_neg Bool.false_ne_true]
      exact ⟨B,ρ1,O1,fp1,r,ρ',R1,hq,fun v H2 O2 fp2 R2 k2 F2=>k v H2 O2 fp2 R2 (k2.back F1.fl) (F1.trans F2)⟩
end
end Mi
namespace Mi
open PySem L2
variable {K:PySem.W.Frag}{H H':Hp}{O O':Addr→Prop}{fp fp':Nat→List Addr}{B:Hp}{ρ ρ':En}{σ:St}
inductive Out where
  | nx (ρ:En) | rt (s:Slot) | bk (ρ:En) | ct (ρ:En)
noncomputable abbrev MS:=En→Option Out
noncomputable def OutOk (K:PySem.W.Frag)(B:Hp)(H:Hp)(O:Addr→Prop)(fp:Nat→List Addr)(D:Ends):Out→Prop
  | .nx ρ'=>∀ σ' H' O' fp',Rel K B ρ' σ' H' O' fp'→Fr H O fp H' O' fp'→D.nx σ' H'
  | .bk ρ'=>∀ σ' H' O' fp',Rel K B ρ' σ' H' O' fp'→Fr H O fp H' O' fp'→D.bk σ' H'
  | .ct ρ'=>∀ σ' H' O' fp',Rel K B ρ' σ' H' O' fp'→Fr H O fp H' O' fp'→D.ct σ' H'
  | .rt s=>∀ ρ' σ' v H' O' fp',Rel K B ρ' σ' H' O' fp'→ResOk K H' O' fp' σ' O0 (.of s) v→D.rt v H'
inductive tQS (K:PySem.W.Frag)(g:MS)(D:Ends)(σ:L2.St)(H:Hp):Prop
  | mk:∀ B ρ O fp o,(Rel K B ρ σ H O fp)→(g ρ=some o)→(OutOk K B H O fp D o)→tQS K g D σ H
theorem OutOk.fr {D:Ends}{o:Out}{H1:Hp}{O1:Addr→Prop}{fp1:Nat→List Addr}(F:Fr H O fp H1 O1 fp1)(h:OutOk K B H O fp D o):OutOk K B H1 O1 fp1 D o:=by
  cases o with
  | nx ρ'=>exact fun σ' H' O' fp' R F'=>h σ' H' O' fp' R (F.trans F')
  | bk ρ'=>exact fun σ' H' O' fp' R F'=>h σ' H' O' fp' R (F.trans F')
  | ct ρ'=>exact fun σ' H' O' fp' R F'=>h σ' H' O' fp' R (F.trans F')
  | rt s=>exact h
noncomputable abbrev QS (X:Cx)(st:Stmt)(g:MS):Prop:=PS X st (tQS X.K g)
noncomputable abbrev QSs (X:Cx)(st:List Stmt)(g:MS):Prop:=PSs X st (tQS X.K g)
noncomputable def sNil:MS:=fun ρ=>some (.nx ρ)
noncomputable def sSeq (a b:MS):MS:=fun ρ=>(a ρ).bind fun o=>match o with
  | .nx ρ'=>b ρ'
  | .rt s=>some (.rt s)
  | .bk ρ'=>some (.bk ρ')
  | .ct ρ'=>some (.ct ρ')
noncomputable def sRet (f:M R):MS:=fun ρ=>(f ρ).bind fun x=>match x.1 with
  | .of s=>some (.rt s)
  | .bor _=>none
noncomputable def sIf (c:M Bool)(a b:MS):MS:=fun ρ=>(c ρ).bind fun x=>if x.1=true then a x.2 else b x.2
noncomputable def sDrop (f:M R):MS:=fun ρ=>(f ρ).bind fun x=>some (.nx x.2)
noncomputable def sSet (i:Nat)(f:M R):MS:=fun ρ=>(f ρ).bind fun x=>match x.1 with
  | .of s=>if i < x.2.length then some (.nx (x.2.set i (some s))) else none
  | .bor _=>none
section
variable {X:Cx}{e a b:Expr}{st:Stmt}{rest:List Stmt}{pos:Pos}
theorem _root_.L2.PS.imp {t t':TS}(h:PS X st t)(w:∀ D σ H,t' D σ H→t D σ H):PS X st t':=fun pins s σ H D I q=>h pins s σ H D I (w D σ H q)
theorem _root_.L2.PSs.imp {t t':TS}(h:PSs X rest t)(w:∀ D σ H,t' D σ H→t D σ H):PSs X rest t':=fun pins s σ H D I q=>h pins s σ H D I (w D σ H q)
theorem qs_nil:QSs X [] sNil:=pss_nil.imp fun D σ H zq=>by
  obtain ⟨B,ρ,O,fp,o,R,hg,k⟩:=zq
  cases hg
  exact k σ H O fp R Fr.refl
theorem seq_of {D:Ends}{g1 g2:MS}{σ:St}{H:Hp}(h:tQS K (sSeq g1 g2) D σ H):tQS K g1 { D with nx:=tQS K g2 D } σ H:=by
  obtain ⟨B,ρ,O,fp,o,R,hg,k⟩:=h
  obtain ⟨o1,h1,hg⟩:=bind_some hg
  refine ⟨B,ρ,O,fp,o1,R,h1,?_⟩
  cases o1 with
  | nx ρ1=>exact fun σ' H' O' fp' R' F'=>⟨B,ρ1,O',fp',o,R',hg,k.fr F'⟩
  | rt s=>cases hg; exact k
  | bk ρ1=>cases hg; exact k
  | ct ρ1=>cases hg; exact k
theorem qs_cons {g1 g2:MS}(h1:QS X st g1)(h2:QSs X rest g2):QSs X (st::rest) (sSeq g1 g2):=(pss_cons h1 h2).imp fun D σ H h=>seq_of h
theorem qs_one {g:MS}(h1:QS X st g):QSs X [st] g:=pss_one h1
theorem qs_ret {f:M R}(h:QE X e f):QS X (.Return (some e) pos) (sRet f):=(ps_ret h).imp fun D σ H zq=>by
  obtain ⟨B,ρ,O,fp,o,R,hg,k⟩:=zq
  obtain ⟨⟨x,ρ1⟩,h1,hg⟩:=bind_some hg
  refine ⟨B,ρ,O,fp,x,ρ1,R,h1,fun v H' O' fp' R' k' F'=>?_⟩
  cases x with
  | bor i=>cases hg
  | of s=>cases hg; exact k ρ1 σ v H' O' fp' R' (k'.back fun _ z=>z.elim)
theorem qs_if {c:Expr}{as bs:List Stmt}{m:M Bool}{g h:MS}(hc:QT X c m)(ha:QSs X as g)(hb:QSs X bs h):QS X (.If c as bs pos) (sIf m g h):=
  (ps_if hc ha hb).imp fun D σ H zq=>by
    obtain ⟨B,ρ,O,fp,o,R,hg,k⟩:=zq
    obtain ⟨⟨x,ρ1⟩,h1,hg⟩:=bind_some hg
    refine ⟨B,ρ,O,fp,x,ρ1,R,h1,fun H' O' fp' R' F'=>?_⟩
    cases x with
    | true=>
      rw [if_pos rfl] at hg
      rw [if_pos rfl]
      exact ⟨B,ρ1,O',fp',o,R',hg,k.fr F'⟩
    | false=>
      rw [if_neg Bool.false_ne_true] at hg
      rw [if_neg Bool.false_ne_true]
      exact ⟨B,ρ1,O',fp',o,R',hg,k.fr F'⟩
theorem qs_expr {f:M R}(h:QE X e f)(hs:swapsWith e none pos.line X.env=pure false:=by rfl):QS X (.Expr e pos) (sDrop f):=(ps_expr h hs).imp fun D σ H zq=>by
  obtain ⟨B,ρ,O,fp,o,R,hg,k⟩:=zq
  obtain ⟨⟨x,ρ1⟩,h1,hg⟩:=bind_some hg
  cases hg
  exact ⟨B,ρ,O,fp,x,ρ1,R,h1,fun v H' O' fp' R' k' F'=>k σ H' O' fp' R' F'⟩
theorem set_of {D:Ends}{i:Nat}{f:M R}{σ:St}{H:Hp}(h:tQS K (sSet i f) D σ H):tAsg (tQ K f) (gName i) D σ H:=by
  obtain ⟨B,ρ,O,fp,o,R,hg,k⟩:=h
  obtain ⟨⟨x,ρ1⟩,h1,hg⟩:=bind_some hg
  refine ⟨B,ρ,O,fp,x,ρ1,R,h1,fun v H' O' fp' R' k' F'=>?_⟩
  cases x with
  | bor i=>cases hg
  | of s=>
    have hg':(if i < ρ1.length then some (Out.nx (ρ1.set i (some s))) else none)=some o:=hg
    by_cases hi:i < ρ1.length
    · rw [if_pos hi] at hg'
      cases hg'
      obtain ⟨g,hs,nd,hf⟩:=k'
      exact k _ H' O' _ (R'.set hs nd (fun a ha=>(hf a ha).1) hi) (F'.set i fun a ha=>(hf a ha).2)
    · rw [if_neg hi] at hg'; cases hg'
theorem qs_set {i:Nat}{x:Str}{f:M R}{pos':Pos}(hN:X.N.Nodup)(hi:X.N[i]?=some x)(hx:Loc X.env.scope x)(he:QE X e f)(hs:swapsWith e (some (.Name x pos')) pos.line X.env=pure false:=by rfl)
    (hf:X.fn x=true∨X.env.scope.names.lookup x=some .local:=by first | exact .inl rfl | exact .inr rfl | assumption):QS X (.Assign [.Name x pos'] e pos) (sSet i f):=
  (ps_set hN hi hx he hs hf).imp fun D σ H h=>set_of h
noncomputable abbrev MG:=Slot→En→Option En
noncomputable def Agr (ks:List Nat)(σ σ':St):Prop:=σ'.length=σ.length∧∀ j,j∉ks→σ'[j]?=σ[j]?
theorem Agr.refl {ks:List Nat}{σ:St}:Agr ks σ σ:=⟨rfl,fun _ _=>rfl⟩
theorem Agr.trans {ks ks':List Nat}{σ σ1 σ2:St}(a:Agr ks σ σ1)(b:Agr ks' σ1 σ2):Agr (ks++ks') σ σ2:=
  ⟨b.1.trans a.1,fun j h=>(b.2 j fun z=>h (List.mem_append_right _ z)).trans (a.2 j fun z=>h (List.mem_append_left _ z))⟩
theorem Agr.set {σ:St}{i:Nat}{v:Option V}:Agr [i] σ (σ.set i v):=⟨by simp,fun j h=>List.getElem?_set_ne (fun z=>h (by simp [z]))⟩
inductive tQG (K:PySem.W.Frag)(ks:List Nat)(g:MG)(v:V)(σ:L2.St)(H:Hp)(Q:L2.St→Hp→Prop):Prop
  | mk:∀ B ρ O fp s ρ',(Rel K B ρ σ H O fp)→(SlotOk K H O s v [])→(g s ρ=some ρ')→(∀ σ' H' O' fp',Agr ks σ σ'→Rel K B ρ' σ' H' O' fp'→Fr H O fp H' O' fp'→Q σ' H')→tQG K ks g v σ H Q
noncomputable abbrev QG (X:Cx)(e:Expr)(ks:List Nat)(g:MG):Prop:=PG X e (tQG X.K ks g)
theorem _root_.L2.PG.imp {t t':TG}(h:PG X e t)(w:∀ v σ H Q,t' v σ H Q→t v σ H Q):PG X e t':=fun pins s σ H v u Q I r q=>h pins s σ H v u Q I r (w v σ H Q q)
noncomputable def setN (i:Nat):MG:=fun s ρ=>if i < ρ.length then some (ρ.set i (some s)) else none
theorem qg_name {i:Nat}(h:PG X e (gName i)):QG X e [i] (setN i):=h.imp fun v σ H Q zq=>by
  obtain ⟨B,ρ,O,fp,s,ρ',R,hs,hg,k⟩:=zq
  have hg':(if i < ρ.length then some (ρ.set i (some s)) else none)=some ρ':=hg
  by_cases hi:i < ρ.length
  · rw [if_pos hi] at hg'
    cases hg'
    exact k _ H O _ Agr.set (R.set hs List.nodup_nil (fun a ha=>by simp at ha) hi) (Fr.refl.set i fun a ha=>by simp at ha)
  · rw [if_neg hi] at hg'; cases hg'
noncomputable abbrev MGs:=List D→En→Option En
inductive tQGs (K:PySem.W.Frag)(ks:List Nat)(g:MGs)(vs:List V)(σ:L2.St)(H:Hp)(Q:L2.St→Hp→Prop):Prop
  | mk:∀ B ρ O fp ds ρ',(Rel K B ρ σ H O fp)→(IsL K H ds vs)→(g ds ρ=some ρ')→(∀ σ' H' O' fp',Agr ks σ σ'→Rel K B ρ' σ' H' O' fp'→Fr H O fp H' O' fp'→Q σ' H')→tQGs K ks g vs σ H Q
noncomputable abbrev QGs (X:Cx)(es:List Expr)(ks:List Nat)(g:MGs):Prop:=PGs X es (tQGs X.K ks g)
noncomputable def gsNil:MGs:=fun ds ρ=>match ds with
  | []=>some ρ
  | _=>none
noncomputable def gsCons (g:MG)(gs:MGs):MGs:=fun ds ρ=>match ds with
  | []=>none
  | d::r=>(g (.val d) ρ).bind fun ρ'=>gs r ρ'
theorem _root_.L2.PGs.imp {es:List Expr}{t t':TGs}(h:PGs X es t)(w:∀ v σ H Q,t' v σ H Q→t v σ H Q):PGs X es t':=fun pins s σ H v u Q I r q=>h pins s σ H v u Q I r (w v σ H Q q)
theorem qgs_nil:QGs X [] [] gsNil:=pgs_nil.imp fun vs σ H Q zq=>by
  obtain ⟨B,ρ,O,fp,ds,ρ',R,hs,hg,k⟩:=zq
  cases ds with
  | cons d r=>cases hg
  | nil=>
    cases hg
    exact ⟨hs,k σ H O fp Agr.refl R Fr.refl⟩
theorem qgs_cons {es:List Expr}{ks ks':List Nat}{g:MG}{gs:MGs}(h1:QG X e ks g)(h2:QGs X es ks' gs)(hs:(assignEach (e::es) X.env).map (·.2)=assign e X.env::(assignEach es X.env).map (·.2):=by rfl):QGs X (e::es) (ks++ks') (gsCons g gs):=
  (pgs_cons h1 h2 hs).imp fun vs σ H Q zq=>by
    obtain ⟨B,ρ,O,fp,ds,ρ',R,hs,hg,k⟩:=zq
    cases ds with
    | nil=>cases hg
    | cons d r=>
      obtain ⟨v,us,rfl,hd,hl⟩:=hs
      obtain ⟨ρ1,q1,q2⟩:=bind_some hg
      refine ⟨v,us,rfl,B,ρ,O,fp,.val d,ρ1,R,⟨hd,rfl⟩,q1,fun σ1 H1 O1 fp1 A1 R1 F1=>?_⟩
      exact ⟨B,ρ1,O1,fp1,r,ρ',R1,hl.tk (F1.tk R.lst),q2,fun σ2 H2 O2 fp2 A2 R2 F2=>k σ2 H2 O2 fp2 (A1.trans A2) R2 (F1.trans F2)⟩
noncomputable def setT (n:Nat)(gs:MGs):MG:=fun s ρ=>match s with
  | .val (.tup ds)=>if ds.length=n then gs ds ρ else none
  | _=>none
theorem qg_tup {es:List Expr}{k:Nat}{ks:List Nat}{gs:MGs}{n:Nat}(hc:X.calm=true)(h:QGs X es ks gs)(hn:(assignEach es X.env).length=n:=by rfl)(hst:(assignEach es X.env).findIdx? (·.1)=none:=by rfl):QG X (.Tuple es k pos) ks (setT n gs):=
  (pg_tup hc h hn hst).imp fun v σ H Q zq=>by
    obtain ⟨B,ρ,O,fp,s,ρ',R,hs,hg,k⟩:=zq
    cases s with
    | val d=>
      cases d with
      | tup ds=>
        have hg':(if ds.length=n then gs ds ρ else none)=some ρ':=hg
        by_cases hl:ds.length=n
        · rw [if_pos hl] at hg'
          obtain ⟨⟨a,vs,e,q,l⟩,_⟩:=hs
          exact ⟨a,vs,e,q,l.length.trans hl,B,ρ,O,fp,ds,ρ',R,l,hg',k⟩
        · rw [if_neg hl] at hg'; cases hg'
      | _=>cases hg
    | _=>cases hg
noncomputable def imm:Slot→Option Slot
  | .own _=>none
  | .own2 _=>none
  | .dct _=>none
  | s=>some s
noncomputable def sAsg (g:MG)(f:M R):MS:=fun ρ=>(f ρ).bind fun x=>match x.1 with
  | .of s=>(imm s).bind fun s=>(g s x.2).bind fun ρ'=>some (.nx ρ')
  | .bor _=>none
theorem imm_foot {s t:Slot}{v:V}{f:List Addr}(h:imm s=some t)(k:SlotOk K H O s v f):t=s∧f=[]:=by
  cases s with
  | val d=>cases h; exact ⟨rfl,k.2⟩
  | fz d=>cases h; exact ⟨rfl,k.2⟩
  | fz2 d=>cases h; exact ⟨rfl,k.2⟩
  | own d=>cases h
  | own2 d=>cases h
  | any=>cases h; exact ⟨rfl,k⟩
  | dct m=>cases h
theorem qs_asg {tg:Expr}{f:M R}{ks:List Nat}{g:MG}(he:QE X e f)(hg:QG X tg ks g)(hs:swapsWithSole [tg] e pos.line X.env=pure false:=by rfl)(hw:swappedStores [tg] e X.env=pure none:=by rfl)
    (h1:(assignEach [tg] X.env).map (·.2)=[assign tg X.env]:=by rfl):QS X (.Assign [tg] e pos) (sAsg g f):=
  (ps_asg he hg hs hw h1).imp fun D σ H zq=>by
    obtain ⟨B,ρ,O,fp,o,R,hg,k⟩:=zq
    obtain ⟨⟨x,ρ1⟩,h1,hg⟩:=bind_some hg
    refine ⟨B,ρ,O,fp,x,ρ1,R,h1,fun v H' O' fp' R' k' F'=>?_⟩
    cases x with
    | bor i=>cases hg
    | of s=>
      obtain ⟨t,q1,hg⟩:=bind_some hg
      obtain ⟨ρ2,q2,hg⟩:=bind_some hg
      cases hg
      obtain ⟨f,hs,nd,hf⟩:=k'
      obtain ⟨rfl,rfl⟩:=imm_foot q1 hs
      exact ⟨B,ρ1,O',fp',t,ρ2,R',hs,q2,fun σ2 H2 O2 fp2 _ R2 F2=>k σ2 H2 O2 fp2 R2 (F'.trans F2)⟩
noncomputable def setIx (i:Nat)(m:M R):MG:=fun s ρ=>match s with
  | .val d=>(ρ[i]?).join.bind fun u=>match u with
    | .own _=>(m ρ).bind fun x=>(dr x.2 x.1).bind fun y=>match y with
      | .val (.int k)=>(x.2[i]?).join.bind fun w=>match w with
        | .own ds=>(ixN ds.length k).bind fun j=>some (x.2.set i (some (.own (ds.set j d))))
        | _=>none
      | _=>none
    | _=>none
  | _=>none
theorem qg_ix {i:Nat}{m:M R}(ho:PE X a (tVar i))(hi:QE X b m)
    (ha:∀ v,assign (.Subscript a b pos) X.env v=(do
      let ov ←holding [v] (eval a X.env)
      let iv ←holding [v,ov] (eval b X.env)
      standAt pos
      holding [v,ov,iv] (setItem ov iv v)
      release [v,ov,iv] []):=by intro _; rfl):QG X (.Subscript a b pos) [] (setIx i m):=
  (pg_sub ho hi set_list ha).imp fun v σ H Q zq=>by
    obtain ⟨B,ρ,O,fp,s,ρ',R,hs,hg,k⟩:=zq
    cases s with
    | val d=>
      obtain ⟨u,q1,hg⟩:=bind_some hg
      cases u with
      | own ds0=>
        obtain ⟨⟨x,ρ1⟩,q2,hg⟩:=bind_some hg
        obtain ⟨y,q3,hg⟩:=bind_some hg
        cases y with
        | val dy=>
          cases dy with
          | int kk=>
            obtain ⟨w,q4,hg⟩:=bind_some hg
            cases w with
            | own ds=>
              obtain ⟨j,q5,hg⟩:=bind_some hg
              cases hg
              obtain ⟨vo,e1,p,vs0,rfl,_⟩:=R.slot i _ (join_some q1)
              refine ⟨.ref p,e1,B,ρ,O,fp,x,ρ1,R,q2,fun iv H1 O1 fp1 R1 k1 F1=>?_⟩
              obtain ⟨g,hy,_⟩:=R1.dr k1 q3
              have e2:iv=.int kk:=hy
              subst e2
              obtain ⟨vo',e3,p',vs,e4,h4,h5,h6⟩:=R1.slot i _ (join_some q4)
              rw [e1] at e3; cases e3; cases e4
              have hd:Is X.K H1 d v:=hs.1.tk (F1.tk R.lst)
              refine ⟨p,vs,kk,j,rfl,rfl,h4,by rw [h5.length]; exact q5,?_⟩
              obtain ⟨R2,F2⟩:=R1.upd (join_some q4) e1 (h5.set hd j)
              exact k σ _ O1 fp1 Agr.refl R2 (F1.trans F2)
            | _=>cases hg
          | _=>cases hg
        | _=>cases hg
      | _=>cases hg
    | _=>cases hg
noncomputable def ownAt (ρ:En)(i:Nat):Option (List D):=(ρ[i]?).join.bind fun s=>match s with
  | .own ds=>some ds
  | _=>none
theorem ownAt_of {i:Nat}{ds:List D}(h:ownAt ρ i=some ds):ρ[i]?=some (some (.own ds)):=by
  obtain ⟨s,q,e⟩:=bind_some h
  cases s with
  | own es=>cases e; exact join_some q
  | _=>cases e
noncomputable def mMeth (i:Nat)(g:List D→List Slot→Option (D×List D))(args:M (List R)):M R:=fun ρ=>(ownAt ρ i).bind fun _=>(args ρ).bind fun x=>(drs x.2 x.1).bind fun ss=>(ownAt x.2 i).bind fun ds=>
  (g ds ss).bind fun y=>some (.of (.val y.1),x.2.set i (some (.own y.2)))
end
end Mi
namespace Mi
open PySem L2
variable {K:PySem.W.Frag}{H H':Hp}{O O':Addr→Prop}{fp fp':Nat→List Addr}{B:Hp}{ρ ρ':En}{σ:St}
section
variable {X:Cx}{e a b:Expr}{es:List Expr}{st:Stmt}{rest:List Stmt}{pos apos cpos:Pos}{name:Str}
noncomputable def MR' (K:PySem.W.Frag)(g:List D→List Slot→Option (D×List D))(r:V→List V→Hp→VK→Prop):Prop:=
  ∀ H p vs ds ss xs d ds' Q,H p=some (.lst vs)→IsL K H ds vs→RdL K H ss xs→g ds ss=some (d,ds')→
    (∀ v us,IsL K H ds' us→(∀ us',Is K (upd H p (.lst us')) d v)→Q v (upd H p (.lst us)))→r (.ref p) xs H Q
theorem meth_of {i:Nat}{g:List D→List Slot→Option (D×List D)}{m:M (List R)}{r:V→List V→Hp→VK→Prop}(hm:MR' K g r){σ:St}{H:Hp}{Q:VK}(h:tQ K (mMeth i g m) σ H Q):
    tBM K "list" r (tVar i) (tQL K m) σ H Q:=by
  obtain ⟨B,ρ,O,fp,x,ρ',R,hf,k⟩:=h
  obtain ⟨ds0,q0,hf⟩:=bind_some hf
  obtain ⟨⟨rs,ρ1⟩,q1,hf⟩:=bind_some hf
  obtain ⟨ss,q2,hf⟩:=bind_some hf
  obtain ⟨ds,q3,hf⟩:=bind_some hf
  obtain ⟨⟨d,ds'⟩,q4,hf⟩:=bind_some hf
  cases hf
  obtain ⟨vo,e1,p,vs0,rfl,h0,_⟩:=R.slot i _ (ownAt_of q0)
  refine ⟨.ref p,e1,.inl ⟨rfl,vs0,SqL.of h0⟩,B,ρ,O,fp,rs,ρ1,R,q1,fun xs H1 O1 fp1 R1 k1 F1=>?_⟩
  obtain ⟨vo',e3,p',vs,e4,h4,h5,h6⟩:=R1.slot i _ (ownAt_of q3)
  rw [e1] at e3; cases e3; cases e4
  refine hm H1 p vs ds ss xs d ds' Q h4 h5 (ResL.rd R1 k1 q2) q4 fun v us hl hv=>?_
  obtain ⟨R2,F2⟩:=R1.upd (ownAt_of q3) e1 hl
  exact k v _ O1 fp1 R2 ⟨[],⟨hv us,rfl⟩,List.nodup_nil,fun a z=>by simp at z⟩ (F1.trans F2)
theorem q_meth {i:Nat}{id:String}{g:List D→List Slot→Option (D×List D)}{m:M (List R)}{r:V→List V→Hp→VK→Prop}(pa:PlainAttrs "list")(slot:PySem.Slot "list" name id)(hty:typeOf (.builtin id)=pure (.type "method_descriptor"))(hm:MtR X id r)(hw:MR' X.K g r)
    (ho:PE X a (tVar i)) (ha:QA X (e::es) m)
    (hbase:attributeBase a name X.env (eval a X.env)=eval a X.env:=by rfl)
    (hfew:((backTo cpos (starEach (e::es) X.env)).all (fun x=>!x.1) && (backToKw cpos (keywordEach [] X.env)).all (fun x=>x.1.isSome)
      && decide ((e::es).length+([]:List Keyword).length+(if ([]:List Keyword).isEmpty then 0 else 1) < 30))=true:=by rfl)
    (hline:(apos.endLine == cpos.line)=true:=by rfl) (hs:starEach (e::es) X.env=(false,eval e X.env)::starEach es X.env:=by rfl) (hplain:(backTo cpos (starEach es X.env)).any (·.1)=false:=by rfl):
    QE X (.Call (.Attribute a name apos) (e::es) [] cpos) (mMeth i g m):=
  (pe_bm pa slot hty hm ho ha hbase hfew hline hs hplain).imp fun σ H Q h=>meth_of hw h
theorem q_meth0 {i:Nat}{id:String}{g:List D→List Slot→Option (D×List D)}{r:V→List V→Hp→VK→Prop}(pa:PlainAttrs "list")(slot:PySem.Slot "list" name id)(hty:typeOf (.builtin id)=pure (.type "method_descriptor"))(hm:MtR X id r)(hw:MR' X.K g r)
    (ho:PE X a (tVar i)) (hbase:attributeBase a name X.env (eval a X.env)=eval a X.env:=by rfl) (hline:(apos.endLine == cpos.line)=true:=by rfl):
    QE X (.Call (.Attribute a name apos) [] [] cpos) (mMeth i g mNil):=
  (pe_bm0 pa slot hty hm ho hbase hline).imp fun σ H Q h=>by
    obtain ⟨v,e1,ty,B,ρ,O,fp,rs,ρ1,R,q1,k⟩:=meth_of hw h
    cases q1
    exact ⟨v,e1,ty,k [] H O fp R rfl Fr.refl⟩
noncomputable def big:Nat:=1000000
theorem big_line {n:Nat}(h:n < big):n < sizeLine:=Nat.lt_trans h (by decide)
theorem big_63 {n : Nat} (h : n < big) : (n : Int) < 2 ^ 63 := by have : (big : Int) < 2 ^ 63 := by decide
                                                                  lia
noncomputable def gAppend:List D→List Slot→Option (D×List D):=fun ds ss=>match ss with
  | [.val d]=>if ds.length < big then some (.non,ds++[d]) else none
  | _=>none
theorem mr_append:MR' K gAppend rAppend:=fun H p vs ds ss xs d ds' Q hp hl hr hg k=>by
  unfold gAppend at hg
  split at hg
  · rename_i y
    obtain ⟨v,us,rfl,hv,hu⟩:=hr
    have hu:us=[]:=hu
    subst hu
    have hg':=hg
    by_cases z:ds.length < big
    · rw [if_pos z] at hg'
      cases hg'
      exact ⟨p,vs,v,rfl,rfl,hp,by rw [hl.length]; exact big_line z,k .non _ (hl.append (.cons hv.1 .nil)) fun _=>rfl⟩
    · rw [if_neg z] at hg'; cases hg'
  · cases hg
noncomputable def gPopAt:List D→List Slot→Option (D×List D):=fun ds ss=>match ss with
  | [.val (.int k)]=>if ds.length < big then (ixN ds.length k).bind fun j=>(ds[j]?).bind fun d=>some (d,ds.eraseIdx j) else none
  | _=>none
theorem mr_popAt:MR' K gPopAt rPopAt:=fun H p vs ds ss xs d ds' Q hp hl hr hg k=>by
  unfold gPopAt at hg
  split at hg
  · rename_i i
    obtain ⟨v,us,rfl,hv,hu⟩:=hr
    have hu:us=[]:=hu
    have hv:v=.int i:=hv.1
    subst hu hv
    have hg':=hg
    by_cases z:ds.length < big
    · rw [if_pos z] at hg'
      obtain ⟨j,h1,hg'⟩:=bind_some hg'
      obtain ⟨y,h2,hg'⟩:=bind_some hg'
      cases hg'
      obtain ⟨s1,s2,s3,s4⟩:=ixN_seq h1
      obtain ⟨u,g1,g2⟩:=hl.get h2
      have b:=big_63 z
      refine ⟨p,vs,i,j,u,rfl,rfl,hp,by lia,by lia,by rw [hl.length]; exact s1,g1,k u _ (hl.eraseIdx j) fun us'=>g2.tk (tk_upd hp)⟩
    · rw [if_neg z] at hg'; cases hg'
  · cases hg
noncomputable def gRev:List D→List Slot→Option (D×List D):=fun ds ss=>match ss with
  | []=>some (.non,ds.reverse)
  | _=>none
theorem mr_rev:MR' K gRev rReverse:=fun H p vs ds ss xs d ds' Q hp hl hr hg k=>by
  unfold gRev at hg
  split at hg
  · skip
    have hr:xs=[]:=hr
    subst hr
    cases hg
    exact ⟨p,vs,rfl,rfl,hp,k .non _ hl.reverse fun _=>rfl⟩
  · cases hg
noncomputable def vals:List Slot→Option (List D)
  | []=>some []
  | .val d::r=>(vals r).bind fun ds=>some (d::ds)
  | _=>none
theorem vals_is:∀ {ss:List Slot} {vs:List V} {ds:List D},RdL K H ss vs→vals ss=some ds→IsL K H ds vs
  | [],vs,ds,h,e=>by cases e; exact h
  | .val d::r,vs,ds,h,e=>by
    obtain ⟨v,us,rfl,h1,h2⟩:=h
    obtain ⟨es,q,e⟩:=bind_some e
    cases e
    exact .cons h1.1 (vals_is h2 q)
  | .fz _::r,vs,ds,h,e=>by cases e
  | .fz2 _::r,vs,ds,h,e=>by cases e
  | .own _::r,vs,ds,h,e=>by cases e
  | .own2 _::r,vs,ds,h,e=>by cases e
  | .any::r,vs,ds,h,e=>by cases e
  | .dct _::r,vs,ds,h,e=>by cases e
theorem same_new {H:Hp}{p:Addr}(h:H p=none)(o:HO):Same H (upd H p o):=fun b u q=>by rw [upd_ne (ne_of_none q h)]; exact q
noncomputable def gTup':List Slot→Option Slot:=fun ss=>if ss.length < big then (vals ss).bind fun ds=>some (.val (.tup ds)) else none
noncomputable def gLst':List Slot→Option Slot:=fun ss=>if ss.length < big then (vals ss).bind fun ds=>some (.own ds) else none
theorem sr_tup:SR K gTup' (fun vs H Q=>vs.length≤sizeLine∧∀ p,H p=none→Q (.ref p) (upd H p (.tup vs))):=fun H ss vs s Q hr hg k=>by
  have hg':(if ss.length < big then (vals ss).bind fun ds=>some (Slot.val (.tup ds)) else none)=some s:=hg
  by_cases z:ss.length < big
  · rw [if_pos z] at hg'
    obtain ⟨ds,q,e⟩:=bind_some hg'
    cases e
    refine ⟨by rw [hr.length]; exact Nat.le_of_lt (big_line z),fun p hp=>?_⟩
    have e:=same_new hp (.tup vs)
    exact k _ _ e ⟨p,vs,rfl,SqT.of upd_same,(vals_is hr q).tk (Tk.same e)⟩
  · rw [if_neg z] at hg'; cases hg'
theorem sr_lst:SR K gLst' (fun vs H Q=>vs.length≤sizeLine∧∀ p,H p=none→Q (.ref p) (upd H p (.lst vs))):=fun H ss vs s Q hr hg k=>by
  have hg':(if ss.length < big then (vals ss).bind fun ds=>some (Slot.own ds) else none)=some s:=hg
  by_cases z:ss.length < big
  · rw [if_pos z] at hg'
    obtain ⟨ds,q,e⟩:=bind_some hg'
    cases e
    refine ⟨by rw [hr.length]; exact Nat.le_of_lt (big_line z),fun p hp=>?_⟩
    have e:=same_new hp (.lst vs)
    exact k p vs _ e hp upd_same ((vals_is hr q).tk (Tk.same e))
  · rw [if_neg z] at hg'; cases hg'
theorem q_tup {x1:Nat}{f:M (List R)}(h:QA X es f):QE X (.Tuple es x1 pos) (mOpF gTup' f):=q_opN sr_tup (pe_tup h)
theorem q_lst {f:M (List R)}(h:QA X es f):QE X (.List es pos) (mOpF gLst' f):=q_opN sr_lst (pe_lst h)
noncomputable def gI (C:Int→Int→Bool)(g:Int→Int→D):List Slot→Option Slot:=fun ss=>match ss with
  | [.val (.int i),.val (.int j)]=>if C i j=true then some (.val (g i j)) else none
  | _=>none
theorem gI_of {C:Int→Int→Bool}{g:Int→Int→D}{ss:List Slot}{s:Slot}(h:gI C g ss=some s):∃ i j,ss=[.val (.int i),.val (.int j)]∧C i j=true∧s=.val (g i j):=by
  unfold gI at h
  split at h
  · rename_i i j
    by_cases z:C i j=true
    · rw [if_pos z] at h; cases h; exact ⟨i,j,rfl,z,rfl⟩
    · rw [if_neg z] at h; cases h
  · cases h
theorem rd2 {x y:D}{vs:List V}(h:RdL K H [.val x,.val y] vs):∃ u v,vs=[u,v]∧Is K H x u∧Is K H y v:=by
  obtain ⟨v,us,rfl,h1,u,ws,rfl,h2,h3⟩:=h
  have h3:ws=[]:=h3
  subst h3
  exact ⟨v,u,rfl,h1.1,h2.1⟩
theorem sr_I {C:Int→Int→Bool}{P:Int→Int→Prop}{g:Int→Int→D}{gv:Int→Int→V}(hC:∀ i j,C i j=true→P i j)(hg:∀ H i j,Is K H (g i j) (gv i j)):SR K (gI C g) (r2 (rI P gv)):=fun H ss vs s Q hr h k=>by
  obtain ⟨i,j,rfl,hc,rfl⟩:=gI_of h
  obtain ⟨u,v,rfl,h1,h2⟩:=rd2 hr
  have h1:u=.int i:=h1
  have h2:v=.int j:=h2
  exact ⟨u,v,rfl,i,j,h1,h2,hC i j hc,k _ H (Same.refl H) (hg H i j)⟩
noncomputable def yes2:Int→Int→Bool:=fun _ _=>true
theorem sr_I0 {g:Int→Int→D}{gv:Int→Int→V}(hg:∀ H i j,Is K H (g i j) (gv i j)):SR K (gI yes2 g) (r2 (rI0 gv)):=fun H ss vs s Q hr h k=>by
  obtain ⟨i,j,rfl,hc,rfl⟩:=gI_of h
  obtain ⟨u,v,rfl,h1,h2⟩:=rd2 hr
  have h1:u=.int i:=h1
  have h2:v=.int j:=h2
  exact ⟨u,v,rfl,i,j,h1,h2,k _ H (Same.refl H) (hg H i j)⟩
noncomputable def cMul:Int→Int→Bool:=fun i j=>(decide (-(2 ^ 64) < i) && decide (i < 2 ^ 64)) || (decide (-(2 ^ 64) < j) && decide (j < 2 ^ 64))
noncomputable def cDiv:Int→Int→Bool:=fun _ j=>decide (0 < j) && decide (j < 1073741824)
noncomputable def cMod:Int→Int→Bool:=fun _ j=>decide (0 < j)
noncomputable def cPow:Int→Int→Bool:=fun i j=>decide (0≤j) && decide (j≤1000000) && decide (i.natAbs < 2 ^ 64)
noncomputable def gAdd:=gI yes2 fun i j=>.int (i+j)
noncomputable def gSub:=gI yes2 fun i j=>.int (i - j)
noncomputable def gMul:=gI cMul fun i j=>.int (i*j)
noncomputable def gDiv:=gI cDiv fun i j=>.int (i / j)
noncomputable def gMod:=gI cMod fun i j=>.int (i % j)
noncomputable def gPow:=gI cPow fun i j=>.int (i ^ j.toNat)
noncomputable def gLt:=gI yes2 fun i j=>.bl (decide (i < j))
noncomputable def gGt:=gI yes2 fun i j=>.bl (decide (j < i))
variable {f g:M R}
theorem q_add (ha:QE X a f)(hb:QE X b g):QE X (.BinOp a .Add b pos) (mOpF gAdd (mCons f (mCons g mNil))):=q_bin op_add (sr_I0 fun _ _ _=>rfl) ha hb
theorem q_sub (ha:QE X a f)(hb:QE X b g):QE X (.BinOp a .Sub b pos) (mOpF gSub (mCons f (mCons g mNil))):=q_bin op_sub (sr_I0 fun _ _ _=>rfl) ha hb
theorem q_mul (ha:QE X a f)(hb:QE X b g):QE X (.BinOp a .Mult b pos) (mOpF gMul (mCons f (mCons g mNil))):=q_bin op_mul (sr_I (fun i j h=>by
  simp only [cMul,Bool.or_eq_true,Bool.and_eq_true,decide_eq_true_eq] at h; exact h) fun _ _ _=>rfl) ha hb
theorem q_div (ha:QE X a f)(hb:QE X b g):QE X (.BinOp a .FloorDiv b pos) (mOpF gDiv (mCons f (mCons g mNil))):=q_bin op_fdiv (sr_I (fun i j h=>by
  simp only [cDiv,Bool.and_eq_true,decide_eq_true_eq] at h; exact h) fun _ _ _=>rfl) ha hb
theorem q_mod (ha:QE X a f)(hb:QE X b g):QE X (.BinOp a .Mod b pos) (mOpF gMod (mCons f (mCons g mNil))):=q_bin op_mod (sr_I (fun i j h=>by
  simp only [cMod,decide_eq_true_eq] at h; exact h) fun _ _ _=>rfl) ha hb
theorem q_pow (ha:QE X a f)(hb:QE X b g):QE X (.BinOp a .Pow b pos) (mOpF gPow (mCons f (mCons g mNil))):=q_bin op_pow (sr_I (fun i j h=>by
  simp only [cPow,Bool.and_eq_true,decide_eq_true_eq] at h; exact ⟨h.1.1,h.1.2,h.2⟩) fun _ _ _=>rfl) ha hb
theorem qt_lt (ha:QE X a f)(hb:QE X b g):QT X (.Compare a [.Lt] [b] pos) (mTru (mOpF gLt (mCons f (mCons g mNil)))):=qt_cmp op_lt (sr_I0 fun _ _ _=>rfl) ha hb (nomark _)
theorem qt_gt (ha:QE X a f)(hb:QE X b g):QT X (.Compare a [.Gt] [b] pos) (mTru (mOpF gGt (mCons f (mCons g mNil)))):=qt_cmp op_gt (sr_I0 fun _ _ _=>rfl) ha hb (nomark _)
noncomputable def gNeg:List Slot→Option Slot:=fun ss=>match ss with
  | [.val (.int i)]=>some (.val (.int (-i)))
  | _=>none
theorem q_neg (ha:QE X a f):QE X (.UnaryOp .USub a pos) (mOpF gNeg (mCons f mNil)):=q_un un_neg (fun H ss vs s Q hr h k=>by
  unfold gNeg at h
  split at h
  · rename_i i
    obtain ⟨v,us,rfl,h1,h2⟩:=hr
    have h2:us=[]:=h2
    have h1:v=.int i:=h1.1
    subst h2 h1
    cases h
    exact ⟨_,rfl,i,rfl,k _ H (Same.refl H) rfl⟩
  · cases h) ha
noncomputable def gIx:List Slot→Option Slot:=fun ss=>match ss with
  | [.val (.tup ds),.val (.int k)]=>(atI ds k).bind fun d=>some (.val d)
  | [.fz ds,.val (.int k)]=>(atI ds k).bind fun d=>some (.val d)
  | _=>none
theorem atI_is {ds:List D}{vs:List V}{k:Int}{d:D}(l:IsL K H ds vs)(h:atI ds k=some d):∃ v,atI vs k=some v∧Is K H d v:=by
  obtain ⟨j,h1,h2⟩:=bind_some h
  obtain ⟨v,h3,h4⟩:=l.get h2
  refine ⟨v,?_,h4⟩
  unfold atI
  rw [l.length,h1]
  exact h3
theorem sr_ix:SR K gIx (r2 (rIx K)):=fun H ss vs s Q hr h k=>by
  unfold gIx at h
  split at h
  · rename_i ds i
    obtain ⟨d,h1,h⟩:=bind_some h
    cases h
    obtain ⟨u,v,rfl,⟨a,ws,rfl,q,l⟩,h2⟩:=rd2 hr
    have h2:v=.int i:=h2
    obtain ⟨w,h3,h4⟩:=atI_is l h1
    exact ⟨_,v,rfl,.inr (.inl ⟨a,ws,i,w,rfl,h2,q,h3,k w H (Same.refl H) h4⟩)⟩
  · rename_i ds i
    obtain ⟨d,h1,h⟩:=bind_some h
    cases h
    obtain ⟨u,us,rfl,⟨⟨a,ws,rfl,q,l⟩,_⟩,v,us',rfl,h2,h3⟩:=hr
    have h3:us'=[]:=h3
    have h2:v=.int i:=h2.1
    subst h3 h2
    obtain ⟨w,h3,h4⟩:=atI_is l h1
    exact ⟨_,_,rfl,.inl ⟨a,ws,i,w,rfl,rfl,q.sq,h3,k w H (Same.refl H) h4⟩⟩
  · cases h
theorem q_item (ha:QE X a f)(hb:QE X b g)(hs:PlainIx b):QE X (.Subscript a b pos) (mOpF gIx (mCons f (mCons g mNil))):=q_ix ix_seq sr_ix ha hb hs
noncomputable def gLen:List Slot→Option Slot:=fun ss=>match ss with
  | [.val (.tup ds)]=>some (.val (.int ds.length))
  | [.fz ds]=>some (.val (.int ds.length))
  | [.fz2 dss]=>some (.val (.int dss.length))
  | _=>none
theorem FzL.length:∀ {dss:List (List D)} {vs:List V},FzL K H O dss vs→vs.length=dss.length
  | [],_,h=>by have h':_=[]:=h; subst h'; rfl
  | ds::dss,vs,h=>by
    obtain ⟨a,us,r,rfl,_,_,l⟩:=h
    rw [List.length_cons,List.length_cons,FzL.length l]
theorem sr_len:SR K gLen (fun xs H Q=>∃ p ys,xs=[.ref p]∧(SqL K H p ys∨SqT K H p ys)∧Q (.int ys.length) H):=fun H ss vs s Q hr h k=>by
  unfold gLen at h
  split at h
  · rename_i ds
    obtain ⟨v,us,rfl,⟨⟨a,ws,rfl,q,l⟩,_⟩,h2⟩:=hr
    have h2:us=[]:=h2
    subst h2
    cases h
    exact ⟨a,ws,rfl,.inr q,k _ H (Same.refl H) (by rw [l.length]; exact rfl)⟩
  · rename_i ds
    obtain ⟨v,us,rfl,⟨⟨a,ws,rfl,q,l⟩,_⟩,h2⟩:=hr
    have h2:us=[]:=h2
    subst h2
    cases h
    exact ⟨a,ws,rfl,.inl q.sq,k _ H (Same.refl H) (by rw [l.length]; exact rfl)⟩
  · rename_i ds
    obtain ⟨v,us,rfl,⟨⟨a,ws,rfl,q,l⟩,_⟩,h2⟩:=hr
    have h2:us=[]:=h2
    subst h2
    cases h
    exact ⟨a,ws,rfl,.inl q.sq,k _ H (Same.refl H) (by rw [l.length]; exact rfl)⟩
  · cases h
noncomputable def gList:List Slot→Option Slot:=fun ss=>match ss with
  | [.val (.tup ds)]=>some (.own ds)
  | [.fz ds]=>some (.own ds)
  | _=>none
theorem sr_list:SR K gList (fun xs H Q=>∃ p ys,xs=[.ref p]∧(SqL K H p ys∨SqT K H p ys)∧∀ l,H l=none→Q (.ref l) (upd H l (.lst ys))):=fun H ss vs s Q hr h k=>by
  unfold gList at h
  split at h
  · rename_i ds
    obtain ⟨v,us,rfl,⟨⟨a,ws,rfl,q,l⟩,_⟩,h2⟩:=hr
    have h2:us=[]:=h2
    subst h2
    cases h
    exact ⟨a,ws,rfl,.inr q,fun p hp=>k p ws _ (same_new hp _) hp upd_same (l.tk (Tk.same (same_new hp _)))⟩
  · rename_i ds
    obtain ⟨v,us,rfl,⟨⟨a,ws,rfl,q,l⟩,_⟩,h2⟩:=hr
    have h2:us=[]:=h2
    subst h2
    cases h
    exact ⟨a,ws,rfl,.inl q.sq,fun p hp=>k p ws _ (same_new hp _) hp upd_same (l.tk (Tk.same (same_new hp _)))⟩
  · cases h
noncomputable def gTuple:List Slot→Option Slot:=fun ss=>match ss with
  | [.val (.tup ds)]=>some (.val (.tup ds))
  | [.fz ds]=>some (.val (.tup ds))
  | _=>none
theorem sr_tuple:SR K gTuple (fun xs H Q=>∃ p ys,xs=[.ref p]∧((SqL K H p ys∧∀ l,H l=none→Q (.ref l) (upd H l (.tup ys)))∨(SqT K H p ys∧Q (.ref p) H))):=fun H ss vs s Q hr h k=>by
  unfold gTuple at h
  split at h
  · rename_i ds
    obtain ⟨v,us,rfl,⟨⟨a,ws,rfl,q,l⟩,_⟩,h2⟩:=hr
    have h2:us=[]:=h2
    subst h2
    cases h
    exact ⟨a,ws,rfl,.inr ⟨q,k _ H (Same.refl H) ⟨a,ws,rfl,q,l⟩⟩⟩
  · rename_i ds
    obtain ⟨v,us,rfl,⟨⟨a,ws,rfl,q,l⟩,_⟩,h2⟩:=hr
    have h2:us=[]:=h2
    subst h2
    cases h
    exact ⟨a,ws,rfl,.inl ⟨q.sq,fun p hp=>k _ _ (same_new hp _) ⟨p,ws,rfl,SqT.of upd_same,l.tk (Tk.same (same_new hp _))⟩⟩⟩
  · cases h
noncomputable def gInt:List Slot→Option Slot:=fun ss=>match ss with
  | [.val (.int i)]=>some (.val (.int i))
  | [.val (.bl b)]=>some (.val (.int (if b then 1 else 0)))
  | _=>none
theorem sr_int:SR K gInt (fun xs H Q=>(∃ i,xs=[.int i]∧Q (.int i) H)∨∃ k,xs=[.bl k]∧Q (.int (if k then 1 else 0)) H):=fun H ss vs s Q hr h k=>by
  unfold gInt at h
  split at h
  · rename_i i
    obtain ⟨v,us,rfl,h1,h2⟩:=hr
    have h2:us=[]:=h2
    have h1:v=.int i:=h1.1
    subst h2 h1
    cases h
    exact .inl ⟨i,rfl,k _ H (Same.refl H) rfl⟩
  · rename_i i
    obtain ⟨v,us,rfl,h1,h2⟩:=hr
    have h2:us=[]:=h2
    have h1:v=.bl i:=h1.1
    subst h2 h1
    cases h
    exact .inr ⟨i,rfl,k _ H (Same.refl H) rfl⟩
  · cases h
end
end Mi
namespace Mi
open PySem L2
variable {K:PySem.W.Frag}{H H':Hp}{O O':Addr→Prop}{fp fp':Nat→List Addr}{B:Hp}{ρ ρ':En}{σ:St}
structure Walk (K:PySem.W.Frag)(J:It)(its:List Slot)(H1:Hp)(O1:Addr→Prop)(fp1:Nat→List Addr):Prop where
  go:∀ H O fp,Fr H1 O1 fp1 H O fp→∀ i s,its[i]?=some s→J.go i H∧∀ x H',J.yld i H x H'→Same H H'∧SlotOk K H' O s x []
  stop:∀ H O fp,Fr H1 O1 fp1 H O fp→J.stop its.length H
inductive tQI (K:PySem.W.Frag)(f:M (List Slot))(σ:L2.St)(H:Hp)(R:It→Hp→Prop):Prop
  | mk:∀ B ρ O fp its ρ',(Rel K B ρ σ H O fp)→(f ρ=some (its,ρ'))→(∀ J H' O' fp',Rel K B ρ' σ H' O' fp'→Fr H O fp H' O' fp'→Walk K J its H' O' fp'→R J H')→tQI K f σ H R
noncomputable abbrev QI (X:Cx)(tg e:Expr)(f:M (List Slot)):Prop:=PI X tg e (tQI X.K f)
theorem _root_.L2.PI.imp {X:Cx}{tg e:Expr}{t t':TI}(h:PI X tg e t)(w:∀ σ H R,t' σ H R→t σ H R):PI X tg e t':=fun pins s σ H R I q=>h pins s σ H R I (w σ H R q)
noncomputable def forL (tg:MG)(body:MS):List Slot→MS
  | []=>fun ρ=>some (.nx ρ)
  | s::r=>fun ρ=>(tg s ρ).bind fun ρ1=>(body ρ1).bind fun o=>match o with
    | .nx ρ2=>forL tg body r ρ2
    | .ct ρ2=>forL tg body r ρ2
    | .bk ρ2=>some (.nx ρ2)
    | .rt s=>some (.rt s)
noncomputable def sFor (tg:MG)(it:M (List Slot))(body:MS):MS:=fun ρ=>(it ρ).bind fun x=>forL tg body x.1 x.2
section
variable {X:Cx}{e a b tg iter:Expr}{st:Stmt}{rest body:List Stmt}{pos:Pos}
theorem for_of {D:Ends}{ks:List Nat}{it:M (List Slot)}{g:MG}{m:MS}{σ:St}{H:Hp}(h:tQS K (sFor g it m) D σ H):tFor (tQI K it) (tQG K ks g) (tQS K m) D σ H:=by
  obtain ⟨B,ρ,O,fp,o,R,hg,k⟩:=h
  obtain ⟨⟨its,ρ1⟩,h1,hg⟩:=bind_some hg
  refine ⟨B,ρ,O,fp,its,ρ1,R,h1,fun J H1 O1 fp1 R1 F1 W1=>?_⟩
  refine ⟨fun i m' σ' H'=>m'=its.length - i∧i≤its.length∧∃ ρ' O' fp',Rel K B ρ' σ' H' O' fp'∧Fr H1 O1 fp1 H' O' fp'∧forL g m (its.drop i) ρ'=some o,⟨its.length,by simp,Nat.zero_le _,ρ1,O1,fp1,R1,Fr.refl,hg⟩,?_⟩
  rintro i m' σ' H' ⟨rfl,hi,ρ',O',fp',R',F',e'⟩
  by_cases hlt:i < its.length
  · right
    have hd:its.drop i=its[i]::its.drop (i+1):=List.drop_eq_getElem_cons hlt
    rw [hd] at e'
    obtain ⟨ρ2,q2,e'⟩:=bind_some e'
    obtain ⟨ob,q3,e'⟩:=bind_some e'
    obtain ⟨g1,g2⟩:=W1.go H' O' fp' F' i its[i] (by simp [hlt])
    refine ⟨g1,fun σ2 H2=>∃ ρ' O' fp',Rel K B ρ' σ2 H2 O' fp'∧Fr H1 O1 fp1 H2 O' fp'∧forL g m (its.drop (i+1)) ρ'=some o,fun σ2 H2 h=>⟨its.length - (i+1),by omega,rfl,hlt,h⟩,fun x H2 y=>?_⟩
    obtain ⟨sm,sl⟩:=g2 x H2 y
    refine ⟨B,ρ',O',fp',its[i],ρ2,R'.grow sm,sl,q2,fun σ3 H3 O3 fp3 _ R3 F3=>⟨B,ρ2,O3,fp3,ob,R3,q3,?_⟩⟩
    have F4:Fr H1 O1 fp1 H3 O3 fp3:=F'.trans ((Fr.grow R' sm).trans F3)
    cases ob with
    | nx ρ4=>exact fun σ4 H4 O4 fp4 R4 F5=>⟨ρ4,O4,fp4,R4,F4.trans F5,e'⟩
    | ct ρ4=>exact fun σ4 H4 O4 fp4 R4 F5=>⟨ρ4,O4,fp4,R4,F4.trans F5,e'⟩
    | bk ρ4=>
      cases e'
      exact fun σ4 H4 O4 fp4 R4 F5=>k σ4 H4 O4 fp4 R4 (F1.trans (F4.trans F5))
    | rt s=>
      cases e'
      exact k
  · left
    have e:i=its.length:=by omega
    subst e
    rw [List.drop_length] at e'
    cases e'
    exact ⟨W1.stop H' O' fp' F',k σ' H' O' fp' R' (F1.trans F')⟩
theorem qs_for {it:M (List Slot)}{ks:List Nat}{g:MG}{m:MS}(hp:PassesOwn (model X.prog X.w) X.A X.env X.xe)(hc:X.calm=true)(hi:QI X tg iter it)(hg:QG X tg ks g)(hb:QSs X body m)
    (hs:∀ x,foldedSetIterable iter X.env x=pure x:=by intro _; rfl):QS X (.For tg iter body [] pos) (sFor g it m):=(ps_for hp hc hi hg hb hs).imp fun D σ H h=>for_of h
noncomputable def sWhile (c:M Bool)(body:MS):Nat→MS
  | 0=>fun _=>none
  | n+1=>fun ρ=>(c ρ).bind fun x=>if x.1=true then (body x.2).bind fun o=>match o with
      | .nx ρ2=>sWhile c body n ρ2
      | .ct ρ2=>sWhile c body n ρ2
      | .bk ρ2=>some (.nx ρ2)
      | .rt s=>some (.rt s)
    else some (.nx x.2)
theorem while_of {D:Ends}{c:M Bool}{m:MS}{n:Nat}{σ:St}{H:Hp}(h:tQS K (sWhile c m n) D σ H):tWhile (tQT K c) (tQS K m) D σ H:=by
  obtain ⟨B,ρ,O,fp,o,R,hg,k⟩:=h
  refine ⟨fun n' σ' H'=>∃ ρ' O' fp',Rel K B ρ' σ' H' O' fp'∧Fr H O fp H' O' fp'∧sWhile c m n' ρ'=some o,⟨n,ρ,O,fp,R,Fr.refl,hg⟩,?_⟩
  rintro n' σ' H' ⟨ρ',O',fp',R',F',e'⟩
  cases n' with
  | zero=>cases e'
  | succ n'=>
    obtain ⟨⟨x,ρ1⟩,q1,e'⟩:=bind_some e'
    refine ⟨B,ρ',O',fp',x,ρ1,R',q1,fun H1 O1 fp1 R1 F1=>?_⟩
    have F2:=F'.trans F1
    cases x with
    | true=>
      rw [if_pos rfl] at e'
      refine iteT ?_
      obtain ⟨ob,q3,e'⟩:=bind_some e'
      refine ⟨fun σ2 H2=>∃ ρ' O' fp',Rel K B ρ' σ2 H2 O' fp'∧Fr H O fp H2 O' fp'∧sWhile c m n' ρ'=some o,fun σ2 H2 h=>⟨n',Nat.lt_succ_self _,h⟩,B,ρ1,O1,fp1,ob,R1,q3,?_⟩
      cases ob with
      | nx ρ4=>exact fun σ4 H4 O4 fp4 R4 F5=>⟨ρ4,O4,fp4,R4,F2.trans F5,e'⟩
      | ct ρ4=>exact fun σ4 H4 O4 fp4 R4 F5=>⟨ρ4,O4,fp4,R4,F2.trans F5,e'⟩
      | bk ρ4=>
        cases e'
        exact fun σ4 H4 O4 fp4 R4 F5=>k σ4 H4 O4 fp4 R4 (F2.trans F5)
      | rt s=>
        cases e'
        exact k
    | false=>
      rw [if_neg Bool.false_ne_true] at e'
      refine iteF ?_
      cases e'
      exact k σ' H1 O1 fp1 R1 F2
theorem qs_while {c:Expr}{f:M Bool}{m:MS}(n:Nat)(hp:PassesOwn (model X.prog X.w) X.A X.env X.xe)(hc:QT X c f)(hb:QSs X body m):QS X (.While c body [] pos) (sWhile f m n):=(ps_while hp hc hb).imp fun D σ H h=>while_of h
noncomputable def rangeD (lo:Int)(n:Nat):List Slot:=(List.range n).map fun (i:Nat)=>.val (.int (lo+i))
theorem walk_range {lo:Int}{n:Nat}:Walk K (Itr lo n) (rangeD lo n) H O fp:=by
  refine ⟨fun H O fp _ i s hs=>?_,fun H O fp _=>?_⟩
  · unfold rangeD at hs
    rw [List.getElem?_map] at hs
    cases q:(List.range n)[i]? with
    | none=>rw [q] at hs; cases hs
    | some j=>
      rw [q] at hs
      obtain ⟨h1,h2⟩:=List.getElem?_eq_some_iff.mp q
      rw [List.getElem_range] at h2
      subst h2
      rw [List.length_range] at h1
      cases hs
      refine ⟨h1,fun x H' zq=>?_⟩
      obtain ⟨e1,e2⟩:=zq
      subst e1 e2
      exact ⟨Same.refl _,rfl,rfl⟩
  · show n≤(rangeD lo n).length
    unfold rangeD
    rw [List.length_map,List.length_range]
    exact Nat.le_refl _
noncomputable def mRng1 (f:M (List R)):M (List Slot):=fun ρ=>(f ρ).bind fun x=>(drs x.2 x.1).bind fun ss=>match ss with
  | [.val (.int j)]=>if -(2 ^ 62)≤j∧j < 2 ^ 62 then some (rangeD 0 j.toNat,x.2) else none
  | _=>none
variable {p:Pos}
theorem qi_range1 {f:M (List R)}(hg:Gl X "range")(hm:X.mg "range" = none)(ha:QA X [a] f)(hs:starEach [a] X.env=[(false,eval a X.env)]:=by rfl):QI X tg (.Call (.Name "range" p) [a] [] pos) (mRng1 f):=
  (pi_range1 hg hm ha hs).imp fun σ H Rr zq=>by
    obtain ⟨B,ρ,O,fp,its,ρ',R,hf,k⟩:=zq
    obtain ⟨⟨rs,ρ1⟩,h1,hf⟩:=bind_some hf
    obtain ⟨ss,h2,hf⟩:=bind_some hf
    split at hf
    · rename_i j
      split at hf
      · rename_i hj
        cases hf
        refine ⟨B,ρ,O,fp,rs,ρ1,R,h1,fun vs H1 O1 fp1 R1 k1 F1=>?_⟩
        obtain ⟨v,us,rfl,hv,hu⟩:=ResL.rd R1 k1 h2
        have hu:us=[]:=hu
        have hv:v=.int j:=hv.1
        subst hu hv
        exact ⟨j,rfl,hj.1,hj.2,k _ H1 O1 fp1 R1 F1 walk_range⟩
      · cases hf
    · cases hf
theorem walk_tup {a:Addr}{ds:List D}{vs:List V}(hl:∀ b,O b→LO (H b))(q:SqT K H a vs)(l:IsL K H ds vs):Walk K (Itt K a) (ds.map Slot.val) H O fp:=by
  refine ⟨fun H1 O1 fp1 F i s hs=>?_,fun H1 O1 fp1 F=>?_⟩
  · have t:=F.tk hl
    have q1:=SqT.tk t q
    have l1:=l.tk t
    rw [List.getElem?_map] at hs
    cases e:ds[i]? with
    | none=>rw [e] at hs; cases hs
    | some d=>
      rw [e] at hs
      cases hs
      obtain ⟨v,g1,g2⟩:=l1.get e
      refine ⟨⟨vs,v,q1,g1⟩,fun x H' zq=>?_⟩
      obtain ⟨e1,e2⟩:=zq
      subst e1
      have:=e2 vs q1
      rw [g1] at this; cases this
      exact ⟨Same.refl _,g2,rfl⟩
  · exact ⟨vs,SqT.tk (F.tk hl) q,by rw [List.length_map,l.length]; exact Nat.le_refl _⟩
theorem walk_lst {a:Addr}{ds:List D}{vs:List V}(hl:∀ b,O b→LO (H b))(q:LsA K H O a vs∨(H a=some (.lst vs)∧fl O fp a))(l:IsL K H ds vs):Walk K (Itl K a) (ds.map Slot.val) H O fp:=by
  have sq:∀ H1 O1 fp1,Fr H O fp H1 O1 fp1→SqL K H1 a vs:=fun H1 O1 fp1 F=>by
    rcases q with q | ⟨q,f1,f2⟩
    · exact (LsA.fr F hl q).sq
    · exact SqL.of ((F.flt a f1 f2).1.trans q)
  refine ⟨fun H1 O1 fp1 F i s hs=>?_,fun H1 O1 fp1 F=>?_⟩
  · have q1:=sq H1 O1 fp1 F
    have l1:=l.tk (F.tk hl)
    rw [List.getElem?_map] at hs
    cases e:ds[i]? with
    | none=>rw [e] at hs; cases hs
    | some d=>
      rw [e] at hs
      cases hs
      obtain ⟨v,g1,g2⟩:=l1.get e
      refine ⟨⟨vs,v,q1,g1⟩,fun x H' zq=>?_⟩
      obtain ⟨e1,e2⟩:=zq
      subst e1
      have:=e2 vs q1
      rw [g1] at this; cases this
      exact ⟨Same.refl _,g2,rfl⟩
  · exact ⟨vs,sq H1 O1 fp1 F,by rw [List.length_map,l.length]; exact Nat.le_refl _⟩
end
noncomputable def runF (n N:Nat)(g:MS):List Slot→Option Slot:=fun ss=>if ss.length=n then
    (g (ss.map some++List.replicate (N - n) none)).bind fun o=>match o with
      | .nx _=>some (.val .non)
      | .rt s=>fresh s
      | _=>none
  else none
theorem start_rel {N:List Str}{ss:List Slot}{vs:List V}(h:RdL K H ss vs):Rel K H (ss.map some++List.replicate (N.length - ss.length) none) (L2.start N vs) H O0 (fun _=>[]):=by
  have hl:=h.length
  refine ⟨?_,fun i s e=>?_,fun _ _=>rfl,fun _ _ _ z=>by simp at z,fun _=>List.nodup_nil,fun _ _ z=>by simp at z,fun _ z=>z.elim,fun _ z=>z.elim,fun _ _ z=>z⟩
  · unfold L2.start
    simp [hl]
  · have hi:i < ss.length:=by
      by_cases z:i < ss.length
      · exact z
      · rw [List.getElem?_append_right (by simpa using z),List.getElem?_replicate] at e
        split at e<;>cases e
    rw [List.getElem?_append_left (by simpa using hi),List.getElem?_map] at e
    have go:∀ {ss:List Slot} {vs:List V} {i:Nat} {s:Slot},RdL K H ss vs→ss[i]?=some s→∃ v,vs[i]?=some v∧RdOk K H s v:=by
      intro ss
      induction ss with
      | nil=>intro vs i s _ e; simp at e
      | cons t r ih=>
        intro vs i s h e
        obtain ⟨v,us,rfl,h1,h2⟩:=h
        cases i with
        | zero=>simp at e; subst e; exact ⟨v,rfl,h1⟩
        | succ i=>
          obtain ⟨u,q1,q2⟩:=ih (i:=i) h2 (by simpa using e)
          exact ⟨u,by simpa using q1,q2⟩
    cases q:ss[i]? with
    | none=>rw [q] at e; cases e
    | some t=>
      rw [q] at e
      cases e
      obtain ⟨v,g1,g2⟩:=go h q
      refine ⟨v,?_,g2⟩
      unfold L2.start
      rw [List.getElem?_append_left (by simp; omega),List.getElem?_map,g1]
      rfl
theorem fn_ok {P:Program}{w:World}{K:PySem.W.Frag}{mg:Str→Option Value}{base:Heap}{x qual:Str}{st:Stmt}{f:Addr}{fd:FuncData}{N ps:List Str}{k:Nat}{g:MS}(F:Fun K x qual st f fd)(S:FnScope N ps (defScope st))
    (hbody:∀ (cdv:Value) (A:Around) (outer:List PySem.Env) (s:Shared) (H:Hp) (E:XK),Room k (A.deeper (PyProof.Rows.envOfC qual (defScope st) s.heap.objs.size f cdv))→
      QSs (cxOf CX0 P w K mg base N qual (defScope st) f cdv A outer s H E).nox (defBody st) g):FnOk P w K mg base CX0 (k+1) f fd ps (spF K ps.length (runF ps.length N.length g)):=by
  refine F.ok S (fun vs H Q E h=>?_) (fun cdv A outer s H vs Q E hr h=>?_)
  · obtain ⟨ss,t,e,r,_⟩:=h
    rw [r.length,e]
  · obtain ⟨ss,t,e,r,hF,G⟩:=h
    refine ⟨_,hbody cdv A outer s H E hr,?_⟩
    unfold runF at hF
    rw [if_pos e] at hF
    obtain ⟨o,h1,hF⟩:=bind_some hF
    have R0:=start_rel (N:=N) r
    rw [e] at R0
    refine ⟨H,_,O0,fun _=>[],o,R0,h1,?_⟩
    cases o with
    | nx ρ'=>
      cases hF
      exact fun σ' H' O' fp' R' F'=>G .non H' R'.keep rfl
    | bk ρ'=>cases hF
    | ct ρ'=>cases hF
    | rt s'=>
      obtain ⟨rfl,hn⟩:=fresh_of hF
      intro ρ' σ' v H' O' fp' R' k'
      obtain ⟨f,hs,nd,hf⟩:=k'
      cases t with
      | val d=>exact G v H' R'.keep hs.1
      | fz d=>exact hn.elim
      | fz2 d=>exact hn.elim
      | own ds=>
        obtain ⟨p,vs',rfl,h2,h3,rfl⟩:=hs
        exact G p vs' H' R'.keep (R'.new p (hf p (by simp)).1.1) h2 h3
      | own2 dss=>
        obtain ⟨p,qs,rfl,h2,h3,rfl⟩:=hs
        exact G p qs H' R'.keep (fun a ha=>R'.new a (hf a ha).1.1) nd h2 h3
      | any=>exact hn.elim
      | dct m=>
        obtain ⟨p,rfl,h2,rfl⟩:=hs
        exact G p H' R'.keep (R'.new p (hf p (by simp)).1.1) h2
end Mi
namespace Mi
open PySem L2
open PySem.Spec
variable {K:PySem.W.Frag}{H H':Hp}{O O':Addr→Prop}{fp fp':Nat→List Addr}{B:Hp}{ρ ρ':En}{σ:St}
theorem cells_app:∀ (names:List (Str×NameKind)) (n:Nat) (acc:List (Str×Addr)),cellsFrom n names acc=cellsFrom n names []++acc
  | [],_,_=>rfl
  | (x,k)::r,n,acc=>by
    unfold cellsFrom
    split
    · rw [cells_app r (n+1) ((x,n)::acc),cells_app r (n+1) [(x,n)],List.append_assoc]
      rfl
    · exact cells_app r n acc
theorem lookup_app {α:Type}(x:Str):∀ (a b:List (Str×α)),(a++b).lookup x=(a.lookup x).or (b.lookup x)
  | [],b=>by simp
  | (y,v)::r,b=>by
    rw [List.cons_append,List.lookup_cons,List.lookup_cons]
    cases x == y with
    | true=>rfl
    | false=>exact lookup_app x r b
theorem own_cell:∀ (names:List (Str×NameKind)) (n:Nat) (acc:List (Str×Addr)) (x:Str) (c:Addr),(x,c)∈cellsFrom n names acc→(x,c)∈acc∨(x,NameKind.cell)∈names
  | [],_,_,_,_,h=>.inl h
  | (y,k)::r,n,acc,x,c,h=>by
    unfold cellsFrom at h
    split at h
    · rename_i hk
      rcases own_cell r _ _ x c h with z | z
      · rcases List.mem_cons.mp z with e | z
        · cases e
          have:k=.cell:=by simpa using hk
          subst this
          exact .inr (by simp)
        · exact .inl z
      · exact .inr (List.mem_cons_of_mem _ z)
    · rcases own_cell r _ _ x c h with z | z
      · exact .inl z
      · exact .inr (List.mem_cons_of_mem _ z)
noncomputable def clF (cs:List (Str×Addr)):List (Str×NameKind)→List (Str×Addr)→List (Str×Addr)
  | [],acc=>acc
  | (x,k)::r,acc=>if k == .free then clF cs r ((x,(cs.lookup x).getD 0)::acc) else clF cs r acc
theorem clF_pure {env:PySem.Env}:∀ (names:List (Str×NameKind)) (acc:List (Str×Addr)),(∀ x,(x,NameKind.free)∈names→∃ c,env.cells.lookup x=some c)→
    (forIn names acc fun p cs=>(if p.2 == NameKind.free then (do let c ←cellOf env p.1; pure (.yield ((p.1,c)::cs))) else pure (.yield cs):Sem (ForInStep (List (Str×Addr)))))=pure (clF env.cells names acc)
  | [],acc,_=>by rw [List.forIn_nil]; rfl
  | (x,k)::r,acc,h=>by
    have hr:∀ x,(x,NameKind.free)∈r→∃ c,env.cells.lookup x=some c:=fun y hy=>h y (List.mem_cons_of_mem _ hy)
    rw [List.forIn_cons]
    unfold clF
    by_cases hk:(k == NameKind.free)=true
    · have e:k=.free:=by simpa using hk
      subst e
      obtain ⟨c,hc⟩:=h x (by simp)
      have q:cellOf env x=pure c:=by unfold cellOf; rw [hc]
      simp only [q,hk,if_true,hc,Option.getD_some,pure_bind]
      exact clF_pure r _ hr
    · simp only [hk,if_false,pure_bind,Bool.false_eq_true]
      exact clF_pure r _ hr
theorem clF_mem {cs:List (Str×Addr)}:∀ (names:List (Str×NameKind)) (acc:List (Str×Addr)) (x:Str) (c:Addr),(x,c)∈clF cs names acc→(x,c)∈acc∨((x,NameKind.free)∈names∧c=(cs.lookup x).getD 0)
  | [],_,_,_,h=>.inl h
  | (y,k)::r,acc,x,c,h=>by
    unfold clF at h
    split at h
    · rename_i hk
      rcases clF_mem r _ x c h with z | z
      · rcases List.mem_cons.mp z with e | z
        · cases e
          have:k=.free:=by simpa using hk
          subst this
          exact .inr ⟨by simp,rfl⟩
        · exact .inl z
      · exact .inr ⟨List.mem_cons_of_mem _ z.1,z.2⟩
    · rcases clF_mem r _ x c h with z | z
      · exact .inl z
      · exact .inr ⟨List.mem_cons_of_mem _ z.1,z.2⟩
theorem clF_has {cs:List (Str×Addr)}:∀ (names:List (Str×NameKind)) (acc:List (Str×Addr)) (x:Str),((x,NameKind.free)∈names∨∃ c,acc.lookup x=some c)→∃ c,(clF cs names acc).lookup x=some c
  | [],_,_,h=>by
    rcases h with h | h
    · simp at h
    · exact h
  | (y,k)::r,acc,x,h=>by
    unfold clF
    have up:∀ (v:Addr),(∃ c,acc.lookup x=some c)→∃ c,List.lookup x ((y,v)::acc)=some c:=fun v zq=>by
      obtain ⟨c,e⟩:=zq
      rw [List.lookup_cons]
      cases x == y with
      | true=>exact ⟨_,rfl⟩
      | false=>exact ⟨c,e⟩
    split
    · rename_i hk
      refine clF_has r _ x ?_
      rcases h with h | h
      · rcases List.mem_cons.mp h with e | e
        · cases e
          right
          rw [List.lookup_cons,beq_self_eq_true]
          exact ⟨_,rfl⟩
        · exact .inl e
      · exact .inr (up _ h)
    · rename_i hk
      refine clF_has r _ x ?_
      rcases h with h | h
      · rcases List.mem_cons.mp h with e | e
        · cases e; simp at hk
        · exact .inl e
      · exact .inr h
theorem closure_pure {scope:Scope}{env:PySem.Env}(h:∀ x,(x,NameKind.free)∈scope.names→∃ c,env.cells.lookup x=some c):closureFor scope env=pure (clF env.cells scope.names []):=by
  have e:closureFor scope env=((forIn scope.names ([]:List (Str×Addr)) fun p cs=>(if p.2 == NameKind.free then (do let c ←cellOf env p.1; pure (.yield ((p.1,c)::cs))) else pure (.yield cs):Sem (ForInStep (List (Str×Addr)))))>>=fun cs=>pure cs):=rfl
  rw [e,clF_pure scope.names [] h,pure_bind]
end Mi
namespace Mi
open PySem L2
open PySem.Spec
variable {K:PySem.W.Frag}{H H':Hp}{O O':Addr→Prop}{fp fp':Nat→List Addr}{B:Hp}{ρ ρ':En}{σ:L2.St}
theorem nfe {M:Model}{A:Around}{E:Value→Shared→Prop}{s:Shared}{scope:Scope}{globals:Addr}{cl:List (Str×Addr)}{qual:Str}{env:PySem.Env}{Q:PySem.Env→Shared→Prop}
    (h:Q (newEnv scope s.heap.objs.size globals (cellsFrom (s.heap.objs.size+1) scope.names cl) qual none .none (some env) builtinsNs) { s with heap:=pushCells (s.heap.push { cls:=.type "dict",data:=.dict #[] }) scope.names }):
    wpAny M A (newFunctionEnv scope globals cl [] qual none .none (some env)) Q E s:=by
  simp only [newFunctionEnv,Option.isSome_some,if_true]
  refine wpAny_bind (wpAny_alloc ?_)
  refine wpAny_bind (wpAny_layCells _ (fun name kind cells=>by cases hkc:kind == NameKind.cell<;>simp [hkc]) _ _ _ _ ?_)
  rw [show ({ s with heap:=s.heap.push { cls:=.type "dict",data:=.dict #[] } }:Shared).heap.objs.size=s.heap.objs.size+1 from Heap.size_push ..]
  rw [List.forIn_nil]
  exact wpAny_bind (wpAny_pure (wpAny_pure h))
noncomputable def blkEnv (scope:Scope)(env:PySem.Env)(C:Addr)(cells:List (Str×Addr)):PySem.Env:=
  { scope:=relabel scope env,locals:=C,globals:=env.globals,cells:=cells,qual:=env.qual,func:=none,code:=env.code,frame:=env.frame,builtins:=env.builtins }
noncomputable def blk (X:Cx)(scope:Scope)(C:Addr)(cells:List (Str×Addr))(s₂:Shared)(H₂:Hp)(ex:List Addr):Cx where
  prog:=X.prog
  w:=X.w
  K:=X.K
  mg:=X.mg
  base:=X.base
  A:=X.A
  N:=X.N
  s₀:=s₂
  H₀:=H₂
  env:=blkEnv scope X.env C cells
  outer:=X.stack
  stack:=X.stack
  ex:=ex
  fn:=fun x=>scope.names.lookup x == some .cell
  calm:=X.calm
  pn:=[]
  xe:=fun _ _=>False
structure CompOk (scope:Scope)(outer:List (Str×NameKind))(N:List Str)(ks:List Nat):Prop where
  kind:scope.kind=.function
  nd:(scope.names.map (·.1)).Nodup
  free:∀ x,(x,NameKind.free)∈scope.names→outer.lookup x=some .cell∨outer.lookup x=some .free
  own:∀ i x,N[i]?=some x→scope.names.lookup x=some .local∨scope.names.lookup x=some .cell→i∈ks
theorem lookup_of_mem {α:Type}:∀ {l:List (Str×α)} {x:Str} {c:α},(l.map (·.1)).Nodup→(x,c)∈l→l.lookup x=some c
  | [],_,_,_,h=>by simp at h
  | (y,v)::r,x,c,nd,h=>by
    rw [List.map_cons,List.nodup_cons] at nd
    rw [List.lookup_cons]
    rcases List.mem_cons.mp h with e | h'
    · cases e
      rw [beq_self_eq_true]
    · have:(x == y)=false:=by
        rw [beq_eq_false_iff_ne]
        intro z
        subst z
        exact nd.1 (List.mem_map.mpr ⟨(x,c),h',rfl⟩)
      rw [this]
      exact lookup_of_mem nd.2 h'
theorem lookup_relabel {env:PySem.Env}:∀ {names:List (Str×NameKind)} {x:Str},
    (names.map fun (n,k)=>if (k == NameKind.free && env.scope.kind == .function && env.kindOf n == some .cell) then (n,NameKind.cell) else (n,k)).lookup x=
      (names.lookup x).map fun k=>if (k == NameKind.free && env.scope.kind == .function && env.kindOf x == some .cell) then NameKind.cell else k
  | [],_=>rfl
  | (n,k)::r,x=>by
    have ih:=@lookup_relabel env r x
    rw [List.map_cons,List.lookup_cons]
    cases hx:x == n with
    | true=>
      have e:x=n:=beq_iff_eq.mp hx
      subst e
      by_cases hc:(k == NameKind.free && env.scope.kind == .function && env.kindOf x == some .cell)=true
      · simp only [hc,if_true,List.lookup_cons,beq_self_eq_true,Option.map_some]
      · simp only [hc,if_false,List.lookup_cons,beq_self_eq_true,Option.map_some,Bool.false_eq_true]
    | false=>
      by_cases hc:(k == NameKind.free && env.scope.kind == .function && env.kindOf n == some .cell)=true
      · simp only [hc,if_true,List.lookup_cons,hx]; exact ih
      · simp only [hc,if_false,List.lookup_cons,hx,Bool.false_eq_true]; exact ih
noncomputable def maskS (ks:List Nat)(σ:L2.St):L2.St:=ks.foldl (fun s k=>s.set k none) σ
theorem mask_get {ks:List Nat}:∀ {σ:L2.St},(maskS ks σ).length=σ.length∧(∀ j,j∉ks→(maskS ks σ)[j]?=σ[j]?)∧∀ j v,j∈ks→(maskS ks σ)[j]?≠some (some v):=by
  induction ks with
  | nil=>exact ⟨rfl,fun _ _=>rfl,fun j v h=>by simp at h⟩
  | cons k r ih=>
    intro σ
    obtain ⟨h1,h2,h3⟩:=@ih (σ.set k none)
    refine ⟨by rw [show maskS (k::r) σ=maskS r (σ.set k none) from rfl,h1]; simp,fun j hj=>?_,fun j v hj=>?_⟩
    · rw [show maskS (k::r) σ=maskS r (σ.set k none) from rfl,h2 j (fun z=>hj (by simp [z]))]
      exact List.getElem?_set_ne (fun z=>hj (by simp [z]))
    · rw [show maskS (k::r) σ=maskS r (σ.set k none) from rfl]
      by_cases hr:j∈r
      · exact h3 j v hr
      · have e:j=k:=by rcases List.mem_cons.mp hj with z | z; exact z; exact absurd z hr
        subst e
        rw [h2 j hr,List.getElem?_set]
        rw [if_pos rfl]
        split<;>simp
section
variable {X:Cx}{scope:Scope}{ks:List Nat}{pins:List (Addr×Obj)}{s₂:Shared}{ex:List Addr}
theorem blk_start (I:Inv X pins σ H s₂)(c:CompOk scope X.env.scope.names X.N ks)(hc:X.calm=true)(hex:∀ b∈ex,FpOk X pins H b)(hobj:∀ b∈ex,∃ o,s₂.heap.get? b=some o):
    Inv (blk X scope (s₂.heap.objs.size+1) (cellsFrom (s₂.heap.objs.size+2) scope.names (clF X.env.cells scope.names [])) s₂ H ex) [] (maskS ks σ) (upd H s₂.heap.objs.size (.lst []))
      { s₂ with heap:=pushCells ((s₂.heap.push { cls:=.type "list",data:=.seq ([]:List Value).toArray }).push { cls:=.type "dict",data:=.dict #[] }) scope.names }:=by
  generalize hA:s₂.heap.push { cls:=.type "list",data:=.seq ([]:List Value).toArray }=hAcc
  generalize hD:hAcc.push { cls:=.type "dict",data:=.dict #[] }=hDict
  have zA:hAcc.objs.size=s₂.heap.objs.size+1:=by rw [←hA,Heap.size_push]
  have zD:hDict.objs.size=s₂.heap.objs.size+2:=by rw [←hD,Heap.size_push,zA]
  have kA:∀ b u,s₂.heap.get? b=some u→hAcc.get? b=some u:=fun b u e=>by rw [←hA]; exact Heap.get?_push_of_some _ e
  have kD:∀ b u,hAcc.get? b=some u→hDict.get? b=some u:=fun b u e=>by rw [←hD]; exact Heap.get?_push_of_some _ e
  have kC:∀ b u,hDict.get? b=some u→(pushCells hDict scope.names).get? b=some u:=pushCells_keeps scope.names hDict
  have k3:∀ b u,s₂.heap.get? b=some u→(pushCells hDict scope.names).get? b=some u:=fun b u e=>kC b u (kD b u (kA b u e))
  have ok:=cellsFrom_ok scope.names hDict (s₂.heap.objs.size+2) [] ⟨fun _ _ hm=>(nomatch hm),List.Pairwise.nil⟩ (by rw [zD]; exact Nat.le_refl _)
  rw [zD] at ok
  have app:=cells_app scope.names (s₂.heap.objs.size+2) (clF X.env.cells scope.names [])
  have freeC:∀ x,(x,NameKind.free)∈scope.names→∃ a,X.env.cells.lookup x=some a:=fun x hx=>I.ok.has x (c.free x hx)
  -- an own cell,or one of the frame's
  have cellsAt:∀ x a,(cellsFrom (s₂.heap.objs.size+2) scope.names (clF X.env.cells scope.names [])).lookup x=some a→
      ((x,a)∈cellsFrom (s₂.heap.objs.size+2) scope.names []∧(x,NameKind.cell)∈scope.names∧s₂.heap.objs.size+2≤a∧(pushCells hDict scope.names).IsCell a none)∨((x,NameKind.free)∈scope.names∧X.env.cells.lookup x=some a):=fun x a e=>by
    rw [app,lookup_app] at e
    cases q:(cellsFrom (s₂.heap.objs.size+2) scope.names []).lookup x with
    | some a'=>
      rw [q] at e
      cases e
      have hm:=PySem.mem_of_lookup q
      rcases own_cell _ _ _ _ _ hm with z | z
      · simp at z
      · exact .inl ⟨hm,z,(ok.empty x a hm).2,(ok.empty x a hm).1⟩
    | none=>
      rw [q] at e
      have e':(clF X.env.cells scope.names []).lookup x=some a:=e
      rcases clF_mem _ _ _ _ (PySem.mem_of_lookup e') with z | ⟨z1,z2⟩
      · simp at z
      · obtain ⟨a',h'⟩:=freeC x z1
        rw [h'] at z2
        exact .inr ⟨z1,by rw [h',z2]; rfl⟩
  have cellOld:∀ x a,X.env.cells.lookup x=some a→a < s₂.heap.objs.size:=fun x a e=>let ⟨v,z⟩:=I.cell x a e; z.lt
  have hfr:H s₂.heap.objs.size=none:=I.hok.fresh (Nat.le_refl _)
  have hfr1:H (s₂.heap.objs.size+1)=none:=I.hok.fresh (Nat.le_succ _)
  have nacc:∀ {b:Addr},b≠s₂.heap.objs.size→upd H s₂.heap.objs.size (.lst []) b=H b:=fun h=>upd_ne h
  refine ⟨⟨I.ok.mod,c.kind,I.ok.glob,I.ok.blt,Nat.le_succ _,fun x y a e1 e2=>?_,fun x hx=>?_,fun x a hf e=>?_,fun z=>I.ok.hd z,I.ok.frames,.inl rfl,fun b hb=>⟨?_,fun x a e z=>?_⟩,I.bs,Nat.le_trans I.ok.bsz I.sz,fun b o e hb=>?_,fun b hb z=>?_,I.stack,I.stkFree⟩,
    rfl,I.bare,Un.laid k3 (Nat.le_refl _) hfr,⟨fun _=>none,?_,fun i x v h1 h2 h3=>?_⟩,fun x a e=>?_,?_,fun x a e=>?_,fun p hp=>absurd (show p∈([]:List (Addr×Obj))++[] from hp) (by simp),?_,?_⟩
  · -- inj
    rcases cellsAt x a e1 with ⟨m1,_,l1,_⟩ | ⟨_,q1⟩
    · rcases cellsAt y a e2 with ⟨m2,_,l2,_⟩ | ⟨_,q2⟩
      · exact name_of_addr ok.apart m1 m2
      · exact absurd (Nat.lt_of_lt_of_le (cellOld y a q2) (Nat.le_trans (Nat.le_add_right _ 2) l1)) (Nat.lt_irrefl _)
    · rcases cellsAt y a e2 with ⟨m2,_,l2,_⟩ | ⟨_,q2⟩
      · exact absurd (Nat.lt_of_lt_of_le (cellOld x a q1) (Nat.le_trans (Nat.le_add_right _ 2) l2)) (Nat.lt_irrefl _)
      · exact I.ok.inj x y a q1 q2
  · -- has
    have hx':(scope.names.map fun (n,k)=>if (k == NameKind.free && X.env.scope.kind == .function && X.env.kindOf n == some .cell) then (n,NameKind.cell) else (n,k)).lookup x=some .cell∨(scope.names.map fun (n,k)=>if (k == NameKind.free && X.env.scope.kind == .function && X.env.kindOf n == some .cell) then (n,NameKind.cell) else (n,k)).lookup x=some .free:=hx
    rw [lookup_relabel] at hx'
    show ∃ a,(cellsFrom (s₂.heap.objs.size+2) scope.names (clF X.env.cells scope.names [])).lookup x=some a
    rw [app,lookup_app]
    cases q:scope.names.lookup x with
    | none=>rw [q] at hx'; rcases hx' with z | z<;>cases z
    | some kd=>
      have hm:=PySem.mem_of_lookup q
      cases kd with
      | «local»=>rw [q] at hx'; rcases hx' with z | z<;>cases z
      | globalExplicit=>rw [q] at hx'; rcases hx' with z | z<;>cases z
      | globalImplicit=>rw [q] at hx'; rcases hx' with z | z<;>cases z
      | cell=>
        obtain ⟨a,e⟩:=cell_has (n:=s₂.heap.objs.size+2) q
        exact ⟨a,by rw [e]; rfl⟩
      | free=>
        obtain ⟨a,e⟩:=clF_has (cs:=X.env.cells) scope.names [] x (.inl hm)
        cases (cellsFrom (s₂.heap.objs.size+2) scope.names []).lookup x with
        | some a'=>exact ⟨a',rfl⟩
        | none=>exact ⟨a,e⟩
  · -- cab
    have hf':scope.names.lookup x=some .cell:=by simpa [blk] using hf
    rcases cellsAt x a e with ⟨_,_,l,_⟩ | ⟨z,_⟩
    · exact Nat.le_trans (Nat.le_add_right _ 2) l
    · rw [lookup_of_mem c.nd z] at hf'; cases hf'
  · -- exf 1
    obtain ⟨o,ho⟩:=hobj b hb
    exact Nat.ne_of_lt (Nat.lt_succ_of_lt (Heap.lt_size ho))
  · -- exf 2
    obtain ⟨o,ho⟩:=hobj b hb
    rcases cellsAt x a e with ⟨_,_,l,_⟩ | ⟨_,q⟩
    · rw [z] at l
      exact absurd (Nat.lt_of_lt_of_le (Heap.lt_size ho) (Nat.le_trans (Nat.le_add_right _ 2) l)) (Nat.lt_irrefl _)
    · exact (hex b hb).2.2.2.2.1 x a q z
  · -- noex
    rcases (hex b hb).2.2.2.1 with z | z
    · exact I.ok.noex b o e z
    · exact absurd (Nat.lt_of_lt_of_le (Heap.lt_size e) (Nat.le_trans I.ok.bsz z)) (Nat.lt_irrefl _)
  · -- exfs
    rcases List.mem_cons.mp (I.stkSub b z) with q | q
    · exact (hex b hb).2.1 q
    · exact (hex b hb).2.2.1 q
  · -- the frame
    have:hDict.Ns (s₂.heap.objs.size+1) (fun _=>none):=by
      rw [←hD,←zA]; exact Heap.Ns.new hAcc (.type "dict")
    exact this.keeps kC
  · -- the names
    have hik:i∉ks:=fun z=>(mask_get (σ:=σ)).2.2 i v z h2
    rw [(mask_get (σ:=σ)).2.1 i hik] at h2
    have h3':(relabel scope X.env).names.lookup x=some .local∨(relabel scope X.env).names.lookup x=some .cell∨(relabel scope X.env).names.lookup x=some .free:=h3
    have rl:(relabel scope X.env).names.lookup x=(scope.names.lookup x).map fun k=>if (k == NameKind.free && X.env.scope.kind == .function && X.env.kindOf x == some .cell) then NameKind.cell else k:=lookup_relabel
    have hq:scope.names.lookup x=some .free:=by
      cases q:scope.names.lookup x with
      | none=>rw [rl,q] at h3'; rcases h3' with z | z | z<;>cases z
      | some kd=>
        cases kd with
        | «local»=>exact absurd (c.own i x h1 (.inl q)) hik
        | cell=>exact absurd (c.own i x h1 (.inr q)) hik
        | free=>rfl
        | globalExplicit=>rw [rl,q] at h3'; rcases h3' with z | z | z<;>cases z
        | globalImplicit=>rw [rl,q] at h3'; rcases h3' with z | z | z<;>cases z
    have hm:=PySem.mem_of_lookup hq
    have ho:=c.free x hm
    obtain ⟨m,hn,hl⟩:=I.loc
    obtain ⟨u,r,l⟩:=hl i x v h1 h2 (.inr ho)
    refine ⟨u,r,.inr ⟨?_,?_⟩⟩
    · rcases h3' with z | z
      · rw [rl,hq] at z
        have z':(if (NameKind.free == NameKind.free && X.env.scope.kind == .function && X.env.kindOf x == some .cell)=true then NameKind.cell else NameKind.free)=NameKind.local:=Option.some.inj z
        split at z'<;>cases z'
      · exact z
    · rcases l with ⟨z,_⟩ | ⟨_,a,ha,hcell⟩
      · have z':X.env.scope.names.lookup x=some .local:=z
        rcases ho with y | y<;>(rw [y] at z'; cases z')
      · refine ⟨a,?_,hcell.keeps k3⟩
        obtain ⟨a',e⟩:=clF_has (cs:=X.env.cells) scope.names [] x (.inl hm)
        have e2:(cellsFrom (s₂.heap.objs.size+2) scope.names (clF X.env.cells scope.names [])).lookup x=some a':=by
          rw [app,lookup_app]
          cases q:(cellsFrom (s₂.heap.objs.size+2) scope.names []).lookup x with
          | none=>exact e
          | some b=>
            rcases own_cell _ _ _ _ _ (PySem.mem_of_lookup q) with z | z
            · simp at z
            · rw [lookup_of_mem c.nd z] at hq; cases hq
        have e3:a'=a:=by
          rcases cellsAt x a' e2 with ⟨_,z,_⟩ | ⟨_,z⟩
          · rw [lookup_of_mem c.nd z] at hq; cases hq
          · rw [ha] at z; cases z; rfl
        rw [e3] at e2
        exact e2
  · rcases cellsAt x a e with ⟨_,_,_,z⟩ | ⟨_,z⟩
    · exact ⟨none,z⟩
    · obtain ⟨v,q⟩:=I.cell x a z
      exact ⟨v,q.keeps k3⟩
  · show upd H s₂.heap.objs.size (.lst []) (s₂.heap.objs.size+1)=none
    rw [nacc (Nat.ne_of_gt (Nat.lt_succ_self _))]
    exact hfr1
  · rcases cellsAt x a e with ⟨_,_,l,_⟩ | ⟨_,z⟩
    · have:s₂.heap.objs.size < a:=Nat.lt_of_lt_of_le (Nat.lt_add_of_pos_right (by decide)) l
      rw [nacc (Nat.ne_of_gt this)]
      exact I.hok.fresh (Nat.le_of_lt this)
    · rw [nacc (Nat.ne_of_lt (cellOld x a z))]
      exact I.freeC x a z
  · have:HOk X.prog X.w (upd H s₂.heap.objs.size (.lst [])) hAcc:=I.hok.laid kA (Nat.le_refl _) ⟨Nat.zero_le _,[],0,.nil,by rw [←hA]; exact Heap.get?_push_size _ rfl⟩
    exact this.kept fun b u e=>kC b u (kD b u e)
  · exact (mask_get (σ:=σ)).1.trans I.len
end
end Mi
namespace Mi
open PySem L2
open PySem.Spec
variable {K:PySem.W.Frag}{H H':Hp}{O O':Addr→Prop}{fp fp':Nat→List Addr}{B:Hp}{ρ ρ':En}{σ:L2.St}
noncomputable abbrev tests (ifs:List Expr)(env:PySem.Env):Sem Bool:=forIn ifs true fun c r=>if r=true then do let ok ←isTrue c env (eval c env); pure (ForInStep.yield ok) else pure (ForInStep.yield r)
theorem loop_any {prog:Program}{w:World}{A:Around}{R:Result→Shared→Prop}{s:Shared}{elt target iter:Expr}{ifs:List Expr}{scope:Scope}{pos:Pos}{it acc:Value}{env:PySem.Env}(I:Nat→Shared→Prop)
    (turn:∀ n s,I n s→wpAny (model prog w) A (pyNext it) (fun r s₁=>match r with
      | none=>R (.ok .next) s₁
      | some v=>wpAny (model prog w) A (letOwnedTupleGo target it v) (fun _ s₁=>wpAny (model prog w) A (assign target env v) (fun _ s₂=>
          wpAny (model prog w) A (tests ifs env) (fun ok s₃=>
            if ok=true then wpAny (model prog w) A (eval elt env) (fun x s₄=>
              wpAny (model prog w) A (call (.builtin "list.append") [acc,x]) (fun _ s₅=>∃ m,m < n∧I m s₅) (fun _ _=>False) s₄) (fun _ _=>False) s₃
            else ∃ m,m < n∧I m s₃) (fun _ _=>False) s₂) (fun _ _=>False) s₁) (fun _ _=>False) s₁) (fun _ _=>False) s)
    (n:Nat) (h:I n s):
    codeAny (model prog w) A (.compLoop (.ListComp elt [⟨target,iter,ifs,0⟩] scope pos) 0 it acc env) R s:=by
  refine codeAny_loop rfl I (fun n s hI=>?_) n h
  show wpAny _ A ((compTurn (.ListComp elt [⟨target,iter,ifs,0⟩] scope pos) 0 it acc env).onRaise (fun x=>do noteFrame x env; theTreesLotGoes x)) _ _ s
  refine wpAny_noted ?_
  rw [compTurn_list]
  refine wpAny_bind (wpAny_standAt (wpAny_bind (wpAny_mono (turn n s hI) (fun r s₁ h₁=>?_) fun _ _ h'=>h'.elim)))
  cases r with
  | none=>exact wpAny_pure h₁
  | some v=>
    refine wpAny_bind (wpAny_mono h₁ (fun _ s₁ h₁=>?_) fun _ _ h'=>h'.elim)
    refine wpAny_bind (wpAny_mono h₁ (fun _ s₂ h₂=>wpAny_bind (wpAny_mono h₂ (fun ok s₃ h₃=>?_) fun _ _ h'=>h'.elim)) fun _ _ h'=>h'.elim)
    cases ok with
    | false=>exact wpAny_pure ⟨rfl,h₃⟩
    | true=>
      exact wpAny_bind (wpAny_bind (wpAny_mono h₃ (fun x s₄ h₄=>wpAny_bind (wpAny_mono h₄ (fun _ s₅ h₅=>wpAny_pure (wpAny_pure ⟨rfl,h₅⟩)) fun _ _ h'=>h'.elim)) fun _ _ h'=>h'.elim))
noncomputable def QTs (X:Cx)(ifs:List Expr)(f:M Bool):Prop:=
  ∀ (pins:List (Addr×Obj)) (s:Shared) (σ:L2.St) (H:Hp) (Q:Bool→Hp→Prop),Inv X pins σ H s→tQT X.K f σ H Q→wpAny (model X.prog X.w) X.A (tests ifs X.env) (TP X pins σ Q) X.xe s
noncomputable def mYes:M Bool:=fun ρ=>some (true,ρ)
section
variable {X:Cx}{e c:Expr}
theorem qts_nil:QTs X [] mYes:=fun pins s σ H Q I zq=>by
  obtain ⟨B,ρ,O,fp,b,ρ',R,hf,k⟩:=zq
  cases hf
  exact wpAny_tests_nil ⟨H,I,k H O fp R Fr.refl⟩
end
noncomputable def compL (tg:MG)(c:M Bool)(elt:M R):List Slot→En→Option (List D×En)
  | [],ρ=>some ([],ρ)
  | s::r,ρ=>(tg s ρ).bind fun ρ1=>(c ρ1).bind fun y=>if y.1=true then (elt y.2).bind fun z=>match z.1 with
      | .of (.val d)=>(compL tg c elt r z.2).bind fun w=>some (d::w.1,w.2)
      | _=>none
    else compL tg c elt r y.2
noncomputable def maskE (ks:List Nat)(ρ:En):En:=ks.foldl (fun r k=>r.set k none) ρ
noncomputable def unmask (ks:List Nat)(ρ0 ρ:En):En:=ks.foldl (fun r k=>r.set k (ρ0[k]?).join) ρ
noncomputable def plainAt (ρ:En)(k:Nat):Bool:=match (ρ[k]?).join with
  | none=>true
  | some (.val _)=>true
  | _=>false
noncomputable def noOwn (ρ:En)(k:Nat):Bool:=match (ρ[k]?).join with
  | some (.own _)=>false
  | some (.own2 _)=>false
  | some (.dct _)=>false
  | _=>true
noncomputable def mComp (ks:List Nat)(tg:MG)(it:M (List Slot))(c:M Bool)(elt:M R):M R:=fun ρ=>(it ρ).bind fun x=>if x.1.length < big∧ks.all (plainAt x.2)=true then
    (compL tg c elt x.1 (maskE ks x.2)).bind fun w=>if ks.all (noOwn w.2)=true then some (.of (.own w.1),unmask ks x.2 w.2) else none else none
theorem Rel.mask (r:Rel K B ρ σ H O fp)(ks:List Nat):Rel K B (maskE ks ρ) (maskS ks σ) H O (fun j=>if j∈ks then [] else fp j):=by
  have hE:∀ {ρ:En},(maskE ks ρ).length=ρ.length∧(∀ j,j∉ks→(maskE ks ρ)[j]?=ρ[j]?)∧∀ j s,j∈ks→(maskE ks ρ)[j]?≠some (some s):=by
    induction ks with
    | nil=>exact ⟨rfl,fun _ _=>rfl,fun j v h=>by simp at h⟩
    | cons k r ih=>
      intro ρ
      obtain ⟨h1,h2,h3⟩:=@ih (ρ.set k none)
      refine ⟨by rw [show maskE (k::r) ρ=maskE r (ρ.set k none) from rfl,h1]; simp,fun j hj=>?_,fun j v hj=>?_⟩
      · rw [show maskE (k::r) ρ=maskE r (ρ.set k none) from rfl,h2 j (fun z=>hj (by simp [z]))]
        exact List.getElem?_set_ne (fun z=>hj (by simp [z]))
      · rw [show maskE (k::r) ρ=maskE r (ρ.set k none) from rfl]
        by_cases hr:j∈r
        · exact h3 j v hr
        · have e:j=k:=by rcases List.mem_cons.mp hj with z | z; exact z; exact absurd z hr
          subst e
          rw [h2 j hr,List.getElem?_set]
          rw [if_pos rfl]
          split<;>simp
  obtain ⟨e1,e2,e3⟩:=@hE ρ
  obtain ⟨g1,g2,g3⟩:=mask_get (ks:=ks) (σ:=σ)
  refine ⟨by rw [e1,g1]; exact r.len,fun i s h=>?_,fun i h=>?_,fun i j a h1 h2=>?_,fun i=>?_,fun i a h=>?_,r.lst,r.new,r.keep⟩
  · by_cases hi:i∈ks
    · exact absurd h (e3 i s hi)
    · rw [e2 i hi] at h
      obtain ⟨v,q,z⟩:=r.slot i s h
      exact ⟨v,by rw [g2 i hi]; exact q,by rw [if_neg hi]; exact z⟩
  · by_cases hi:i∈ks
    · rw [if_pos hi]
    · rw [if_neg hi]
      exact r.non i fun s z=>h s (by rw [e2 i hi]; exact z)
  · by_cases hi:i∈ks
    · rw [if_pos hi] at h1; simp at h1
    · by_cases hj:j∈ks
      · rw [if_pos hj] at h2; simp at h2
      · rw [if_neg hi] at h1; rw [if_neg hj] at h2
        exact r.dis i j a h1 h2
  · by_cases hi:i∈ks
    · rw [if_pos hi]; exact List.nodup_nil
    · rw [if_neg hi]; exact r.nd i
  · by_cases hi:i∈ks
    · rw [if_pos hi] at h; simp at h
    · rw [if_neg hi] at h; exact r.sub i a h
theorem unmask_get {ks:List Nat}{ρ0:En}:∀ {ρ:En},ρ.length=ρ0.length→(unmask ks ρ0 ρ).length=ρ.length∧(∀ j,j∉ks→(unmask ks ρ0 ρ)[j]?=ρ[j]?)∧∀ j,j∈ks→(unmask ks ρ0 ρ)[j]?=ρ0[j]?:=by
  induction ks with
  | nil=>exact fun _=>⟨rfl,fun _ _=>rfl,fun j h=>by simp at h⟩
  | cons k r ih=>
    intro ρ hl
    obtain ⟨h1,h2,h3⟩:=@ih (ρ.set k (ρ0[k]?).join) (by simpa using hl)
    refine ⟨by rw [show unmask (k::r) ρ0 ρ=unmask r ρ0 (ρ.set k (ρ0[k]?).join) from rfl,h1]; simp,fun j hj=>?_,fun j hj=>?_⟩
    · rw [show unmask (k::r) ρ0 ρ=unmask r ρ0 (ρ.set k (ρ0[k]?).join) from rfl,h2 j (fun z=>hj (by simp [z]))]
      exact List.getElem?_set_ne (fun z=>hj (by simp [z]))
    · rw [show unmask (k::r) ρ0 ρ=unmask r ρ0 (ρ.set k (ρ0[k]?).join) from rfl]
      by_cases hr:j∈r
      · exact h3 j hr
      · have e:j=k:=by rcases List.mem_cons.mp hj with z | z; exact z; exact absurd z hr
        subst e
        rw [h2 j hr,List.getElem?_set,if_pos rfl]
        by_cases hj:j < ρ0.length
        · rw [if_pos (by lia)]
          rw [List.getElem?_eq_getElem hj]
          rfl
        · rw [if_neg (by lia),List.getElem?_eq_none (by lia)]
theorem Rel.unmask {ks:List Nat}{ρ0:En}{σ0:L2.St}{H0:Hp}{O0':Addr→Prop}{fp0:Nat→List Addr}(r0:Rel K B ρ0 σ0 H0 O0' fp0)(hp:ks.all (plainAt ρ0)=true)(r:Rel K B ρ σ H O fp)(ag:Agr ks σ0 σ)(t:Tk H0 H)
    (hn:ks.all (noOwn ρ)=true):Rel K B (Mi.unmask ks ρ0 ρ) σ0 H O fp:=by
  have hl:ρ.length=ρ0.length:=by rw [r.len,r0.len,ag.1]
  obtain ⟨e1,e2,e3⟩:=unmask_get (ks:=ks) (ρ0:=ρ0) hl
  have nil:∀ i∈ks,fp i=[]:=fun i hi=>by
    have hni:=List.all_eq_true.mp hn i hi
    unfold noOwn at hni
    cases q:(ρ[i]?).join with
    | none=>
      refine r.non i fun s z=>?_
      rw [z] at q; cases q
    | some s=>
      rw [q] at hni
      obtain ⟨v,_,z⟩:=r.slot i s (join_some q)
      cases s with
      | val d=>exact z.2
      | fz d=>exact z.2
      | fz2 d=>exact z.2
      | own d=>cases hni
      | own2 d=>cases hni
      | any=>exact z
      | dct d=>cases hni
  refine ⟨by rw [e1,hl]; exact r0.len,fun i s h=>?_,fun i h=>?_,r.dis,r.nd,r.sub,r.lst,r.new,r.keep⟩
  · by_cases hi:i∈ks
    · rw [e3 i hi] at h
      have hpi:=List.all_eq_true.mp hp i hi
      unfold plainAt at hpi
      rw [h] at hpi
      obtain ⟨v,q,z⟩:=r0.slot i s h
      refine ⟨v,q,?_⟩
      rw [nil i hi]
      cases s with
      | val d=>exact ⟨z.1.tk t,rfl⟩
      | _=>cases hpi
    · rw [e2 i hi] at h
      obtain ⟨v,q,z⟩:=r.slot i s h
      exact ⟨v,by rw [←ag.2 i hi]; exact q,z⟩
  · by_cases hi:i∈ks
    · exact nil i hi
    · exact r.non i fun s z=>h s (by rw [e2 i hi]; exact z)
theorem Rel.updF (r:Rel K B ρ σ H O fp){p:Addr}{vs us:List V}(hp:H p=some (.lst vs))(hf:fl O fp p):Rel K B ρ σ (L2.upd H p (.lst us)) O fp:=by
  refine ⟨r.len,fun i s h=>?_,r.non,r.dis,r.nd,r.sub,fun b h=>?_,r.new,fun b o h=>?_⟩
  · obtain ⟨v,q,z⟩:=r.slot i s h
    exact ⟨v,q,z.upd hp hf.1 (hf.2 i)⟩
  · by_cases e:b=p
    · exact .inl ⟨us,by rw [e]; exact upd_same⟩
    · rw [upd_ne e]; exact r.lst b h
  · rw [upd_ne (fun z=>by have w:=r.new p hf.1; rw [←z,h] at w; cases w)]
    exact r.keep b o h
section
variable {X:Cx}{elt tg iter:Expr}{ifs:List Expr}{scope:Scope}{pos:Pos}{ks:List Nat}{g:MG}{it:M (List Slot)}{c:M Bool}{f:M R}
structure Blk (X:Cx)(scope:Scope)(ks:List Nat)(tg:Expr)(ifs:List Expr)(elt:Expr)(g:MG)(c:M Bool)(f:M R):Prop where
  ok:CompOk scope X.env.scope.names X.N ks
  tg:∀ C cells s₂ H₂ ex,QG (blk X scope C cells s₂ H₂ ex) tg ks g
  ifs:∀ C cells s₂ H₂ ex,QTs (blk X scope C cells s₂ H₂ ex) ifs c
  elt:∀ C cells s₂ H₂ ex,QE (blk X scope C cells s₂ H₂ ex) elt f
theorem Fr.updN (F:Fr H O fp H' O' fp')(l:∀ b,O b→LO (H b)){p:Addr}{o:HO}(hp:H p=none):Fr H O fp (L2.upd H' p o) O' fp':=by
  refine ⟨fun b u h n=>?_,F.new,fun a h n=>?_⟩
  · rw [upd_ne (ne_of_none h hp)]; exact F.keep b u h n
  · rw [upd_ne (fun z:a=p=>(l a h).ne (by rw [z]; exact hp))]; exact F.flt a h n
theorem plain_foot {ks:List Nat}(R:Rel K B ρ σ H O fp)(hp:ks.all (plainAt ρ)=true):(fun j=>if j∈ks then [] else fp j)=fp:=by
  funext j
  by_cases hj:j∈ks
  · rw [if_pos hj]
    have h:=List.all_eq_true.mp hp j hj
    unfold plainAt at h
    cases q:(ρ[j]?).join with
    | none=>
      refine (R.non j fun s z=>?_).symm
      rw [z] at q; cases q
    | some s=>
      rw [q] at h
      obtain ⟨v,_,z⟩:=R.slot j s (join_some q)
      cases s with
      | val d=>exact z.2.symm
      | _=>cases h
  · rw [if_neg hj]
inductive BInv (X X':Cx)(B:Hp)(ks:List Nat)(g:MG)(c:M Bool)(f:M R)(its:List Slot)(fpi:List Addr)(tn:Nat→Heap→Prop)(acc:Addr)(σ:L2.St)(H₂:Hp)(O₂:Addr→Prop)(fp₂:Nat→List Addr)(ds:List D)(ρe:En)(n:Nat)(s:Shared):Prop
  | mk:∀ (i:Nat) (σ':L2.St) (H':Hp) (O':Addr→Prop) (fp':Nat→List Addr) (ρ':En) (dn rs:List D) (vs:List V),(n=its.length - i)→(i≤its.length)→(Inv X' [] σ' H' s)→(tn i s.heap)→((∀ b∈fpi,H' b=none))→(Rel X.K B ρ' σ' H' O' fp')→(Agr ks σ σ')→(Fr H₂ O₂ fp₂ H' O' fp')→(H' acc=some (.lst vs))→(fl O' fp' acc)→(IsL X.K H' dn vs)→(dn.length≤i)→(compL g c f (its.drop i) ρ'=some (rs,ρe))→(ds=dn++rs)→BInv X X' B ks g c f its fpi tn acc σ H₂ O₂ fp₂ ds ρe n s
theorem blk_loop (hc:X.calm=true){C acc:Addr}{cells:List (Str×Addr)}{s₂:Shared}{H₂:Hp}{fpi:List Addr}{X':Cx}(hX:X'=blk X scope C cells s₂ H₂ fpi)(bt:QG X' tg ks g)(bi:QTs X' ifs c)(be:QE X' elt f)(ok':X'.Ok)
    {σ:L2.St} {O₂:Addr→Prop} {fp₂:Nat→List Addr} {J:It} {its:List Slot} {i0:Addr} {tn:Nat→Heap→Prop}
    (T:Turn X.prog X.w X.K tg J fpi i0 tn) (W:Walk X.K J its H₂ O₂ fp₂) (hz:its.length < big) (hl₂:∀ b,O₂ b→LO (H₂ b)) (hacc:H₂ acc=none)
    {ds:List D} {ρe:En} {RR:Result→Shared→Prop}
    (k:∀ σ' H' O' fp' vs s',Inv X' [] σ' H' s'→Rel X.K B ρe σ' H' O' fp'→Agr ks σ σ'→Fr H₂ O₂ fp₂ H' O' fp'→H' acc=some (.lst vs)→fl O' fp' acc→IsL X.K H' ds vs→RR (.ok .next) s') {s:Shared} {n:Nat}
    (h:BInv X X' B ks g c f its fpi tn acc σ H₂ O₂ fp₂ ds ρe n s):
    codeAny (model X.prog X.w) X.A (.compLoop (.ListComp elt [⟨tg,iter,ifs,0⟩] scope pos) 0 (.ref i0) (.ref acc) (blkEnv scope X.env C cells)) RR s:=by
  subst hX
  refine loop_any (BInv X (blk X scope C cells s₂ H₂ fpi) B ks g c f its fpi tn acc σ H₂ O₂ fp₂ ds ρe) ?_ n h
  rintro n s1 ⟨i,σ',H',O',fp',ρ',dn,rs,vs,rfl,hi,I,st,fr,R',ag,F',ha,hfl,hd,hdl,hL,rfl⟩
  have stat:∀ {H':Hp},(∀ b∈fpi,H' b=none)→∀ b∈fpi,FpOk (blk X scope C cells s₂ H₂ fpi) [] H' b:=fun hn b hb=>
    ⟨hn b hb,(ok'.exf b hb).1,ok'.exfs b hb,.inl hb,(ok'.exf b hb).2,fun p hp=>absurd (show p∈([]:List (Addr×Obj))++[] from hp) (by simp)⟩
  by_cases hlt:i < its.length
  · have hd':its.drop i=its[i]::its.drop (i+1):=List.drop_eq_getElem_cons hlt
    rw [hd'] at hL
    obtain ⟨ρ1,q1,hL⟩:=bind_some hL
    obtain ⟨⟨y,ρ2⟩,q2,hL⟩:=bind_some hL
    obtain ⟨g1,g2⟩:=W.go H' O' fp' F' i its[i] (by simp [hlt])
    refine thn (T.item (blk X scope C cells s₂ H₂ fpi) rfl rfl rfl hc i [] s1 σ' H' (fun _ _=>False) I (stat fr) st g1) fun r s2 zq=>?_
    obtain ⟨u,hr,h4⟩:=zq
    subst hr
    refine thn h4 fun _ s5 zq=>?_
    obtain ⟨x,H5,I5,r5,y5,st5,fr5⟩:=zq
    obtain ⟨sm,sl⟩:=g2 x H5 y5
    have I5':=I5.pinned (stat fr5) (T.obj _ _ st5)
    refine thn (bt _ s5 σ' H5 x u (fun σ6 H6=>∃ O6 fp6,Agr ks σ' σ6∧Rel X.K B ρ1 σ6 H6 O6 fp6∧Fr H5 O' fp' H6 O6 fp6) I5' r5 ⟨B,ρ',O',fp',its[i],ρ1,R'.grow sm,sl,q1,fun σ6 H6 O6 fp6 A6 R6 F6=>⟨O6,fp6,A6,R6,F6⟩⟩) fun _ s6 zq=>?_
    obtain ⟨σ6,H6,I6,O6,fp6,A6,R6,F6⟩:=zq
    refine thn (bi _ s6 σ6 H6 (fun b H7=>b=y∧∃ O7 fp7,Rel X.K B ρ2 σ6 H7 O7 fp7∧Fr H6 O6 fp6 H7 O7 fp7) I6 ⟨B,ρ1,O6,fp6,y,ρ2,R6,q2,fun H7 O7 fp7 R7 F7=>⟨rfl,O7,fp7,R7,F7⟩⟩) fun b s7 zq=>?_
    obtain ⟨H7,I7,hb,O7,fp7,R7,F7⟩:=zq
    subst hb
    have F57:Fr H' O' fp' H7 O7 fp7:=(Fr.grow R' sm).trans (F6.trans F7)
    have ag6:Agr ks σ σ6:=⟨A6.1.trans ag.1,fun j hj=>(A6.2 j hj).trans (ag.2 j hj)⟩
    -- behind the turn
    have back:∀ {H9:Hp} {O9:Addr→Prop} {fp9:Nat→List Addr} {ρ9:En} {dn9 rs9:List D} {vs9:List V} {s9:Shared},Inv (blk X scope C cells s₂ H₂ fpi) ([]++pinsAt fpi s5.heap) σ6 H9 s9→Rel X.K B ρ9 σ6 H9 O9 fp9→Fr H₂ O₂ fp₂ H9 O9 fp9→
        H9 acc=some (.lst vs9)→fl O9 fp9 acc→IsL X.K H9 dn9 vs9→dn9.length≤i+1→compL g c f (its.drop (i+1)) ρ9=some (rs9,ρe)→dn++rs=dn9++rs9→
        ∃ m,m < its.length - i∧BInv X (blk X scope C cells s₂ H₂ fpi) B ks g c f its fpi tn acc σ H₂ O₂ fp₂ (dn++rs) ρe m s9:=fun {H9 O9 fp9 ρ9 dn9 rs9 vs9 s9} I9 R9 F9 a9 f9 d9 l9 c9 e9=>by
      refine ⟨its.length - (i+1),by lia,i+1,σ6,H9,O9,fp9,ρ9,dn9,rs9,vs9,rfl,hlt,I9.unpinned,T.keep _ _ _ st5 fun b hb o e=>(I9.pin (b,o) (List.mem_append_right _ (List.mem_append_right _ (mem_pinsAt hb e)))).1,fun b hb=>?_,R9,ag6,F9,a9,f9,d9,l9,c9,e9⟩
      obtain ⟨o,e,d⟩:=T.obj _ _ st5 b hb
      exact (I9.pin (b,o) (List.mem_append_right _ (List.mem_append_right _ (mem_pinsAt hb e)))).2.1
    have tk7:=F57.tk R'.lst
    obtain ⟨ea7,oa7,na7⟩:=F57.flt acc hfl.1 hfl.2
    cases b with
    | false=>
      rw [if_neg Bool.false_ne_true] at hL
      refine iteF ?_
      exact back I7 R7 (F'.trans F57) (ea7.trans ha) ⟨oa7,na7⟩ (hd.tk tk7) (Nat.le_succ_of_le hdl) hL rfl
    | true=>
      rw [if_pos rfl] at hL
      refine iteT ?_
      obtain ⟨⟨z,ρ3⟩,q3,hL⟩:=bind_some hL
      refine thn (be _ s7 σ6 H7 (fun v H8=>∃ O8 fp8,Rel X.K B ρ3 σ6 H8 O8 fp8∧ResOk X.K H8 O8 fp8 σ6 (fl O7 fp7) z v∧Fr H7 O7 fp7 H8 O8 fp8) I7 ⟨B,ρ2,O7,fp7,z,ρ3,R7,q3,fun v H8 O8 fp8 R8 k8 F8=>⟨O8,fp8,R8,k8,F8⟩⟩) fun u8 s8 zq=>?_
      obtain ⟨v,H8,I8,r8,O8,fp8,R8,k8,F8⟩:=zq
      dsimp only at hL
      split at hL
      · rename_i d
        obtain ⟨⟨rs9,ρ9⟩,q4,hL⟩:=bind_some hL
        cases hL
        have F58:=F57.trans F8
        obtain ⟨ea8,oa8,na8⟩:=F58.flt acc hfl.1 hfl.2
        obtain ⟨_,⟨hv,_⟩,_⟩:=k8
        have d8:=hd.tk (F58.tk R'.lst)
        have ea:H8 acc=some (.lst vs):=ea8.trans ha
        refine thn (mt_append (X:=blk X scope C cells s₂ H₂ fpi) _ s8 σ6 H8 (.ref acc) [v] (.ref acc) [u8] (fun _ H9=>H9=L2.upd H8 acc (.lst (vs++[v]))) I8 rfl (.cons r8 .nil) ⟨acc,vs,v,rfl,rfl,ea,by rw [hd.length]; exact big_line (by lia),rfl⟩) fun u9 s9 zq=>?_
        obtain ⟨v9,H9,I9,r9,e9⟩:=zq
        subst e9
        refine back I9 (R8.updF ea ⟨oa8,na8⟩) ((F'.trans F58).updN hl₂ hacc) upd_same ⟨oa8,na8⟩ ((d8.append (.cons hv .nil)).tk (tk_upd ea)) (by rw [List.length_append]; simp; lia) q4 (by simp)
      · cases hL
  · have e:i=its.length:=by lia
    subst e
    rw [List.drop_length] at hL
    cases hL
    refine thn (T.done (blk X scope C cells s₂ H₂ fpi) rfl rfl rfl hc its.length [] s1 σ' H' (fun _ _=>False) I (stat fr) st (W.stop H' O' fp' F')) fun r s4 zq=>?_
    obtain ⟨hr,I4⟩:=zq
    subst hr
    exact k σ' H' O' fp' vs s4 I4 R' ag F' ha hfl (by simpa using hd)
end
end Mi
namespace Mi
open PySem L2
open PySem.Spec
variable {K:PySem.W.Frag}{H H':Hp}{O O':Addr→Prop}{fp fp':Nat→List Addr}{B:Hp}{ρ ρ':En}{σ:L2.St}
section
variable {X:Cx}{elt tg iter:Expr}{ifs:List Expr}{scope:Scope}{pos:Pos}{ks:List Nat}{g:MG}{it:M (List Slot)}{c:M Bool}{f:M R}
theorem blk_run (hc:X.calm=true)(b:Blk X scope ks tg ifs elt g c f){pins:List (Addr×Obj)}{s₂:Shared}{σ:L2.St}{H₂:Hp}{O₂:Addr→Prop}{fp₂:Nat→List Addr}{ρ₂:En}{J:It}{its:List Slot}{fpi:List Addr}{i0:Addr}{tn:Nat→Heap→Prop}
    (I:Inv X pins σ H₂ s₂) (R2:Rel X.K B ρ₂ σ H₂ O₂ fp₂) (T:Turn X.prog X.w X.K tg J fpi i0 tn) (st:tn 0 s₂.heap) (fo:∀ b∈fpi,FpOk X pins H₂ b) (W:Walk X.K J its H₂ O₂ fp₂) (hz:its.length < big) (hp:ks.all (plainAt ρ₂)=true)
    {ds:List D} {ρe:En} (hL:compL g c f its (maskE ks ρ₂)=some (ds,ρe)) (hn:ks.all (noOwn ρe)=true) {use:Option (Value→Sem Unit)} {Q:Value→Shared→Prop}
    (k:∀ (acc C:Addr) (s':Shared) (H':Hp) (O':Addr→Prop) (fp':Nat→List Addr),Inv X pins σ H' s'→Rel X.K B (unmask ks ρ₂ ρe) σ H' O' fp'→ResOk X.K H' O' fp' σ (fl O₂ fp₂) (.of (.own ds)) (.ref acc)→Fr H₂ O₂ fp₂ H' O' fp'→
      FpOk X pins H' C→(∃ m,s'.heap.Ns C m)→compPost (model X.prog X.w) X.A X.xe use Q (.ref acc) C (.ok .next) s'):
    wpAny (model X.prog X.w) X.A (newList []) (fun acc s₃=>wpAny (model X.prog X.w) X.A (newFunctionEnv scope X.env.globals (clF X.env.cells scope.names []) [] X.env.qual none .none (some X.env)) (fun cenv s₄=>
      codeAny (model X.prog X.w) X.A (.compStart (.ListComp elt [⟨tg,iter,ifs,0⟩] scope pos) 0 (.ref i0) acc { cenv with scope:=relabel scope X.env }) (compPost (model X.prog X.w) X.A X.xe use Q acc cenv.locals) s₄) X.xe s₃) X.xe s₂:=by
  have hobj:∀ b∈fpi,∃ o,s₂.heap.get? b=some o:=fun b hb=>let ⟨o,h,_⟩:=T.obj 0 _ st b hb; ⟨o,h⟩
  have I1:=blk_start (ks:=ks) I b.ok hc fo hobj
  refine wpAny_newObj_type (nfe ?_)
  have ez:(s₂.heap.push { cls:=.type "list",dict:=none,data:=.seq ([]:List Value).toArray }).objs.size=s₂.heap.objs.size+1:=Heap.size_push ..
  dsimp only
  rw [ez]
  have hfr:H₂ s₂.heap.objs.size=none:=I.hok.fresh (Nat.le_refl _)
  have n1:∀ a,a=s₂.heap.objs.size→H₂ a=none:=fun a z=>by rw [z]; exact hfr
  have sm:=same_new hfr (.lst [])
  have start:BInv X (blk X scope (s₂.heap.objs.size+1) (cellsFrom (s₂.heap.objs.size+2) scope.names (clF X.env.cells scope.names [])) s₂ H₂ fpi) B ks g c f its fpi tn s₂.heap.objs.size σ H₂ O₂ fp₂ ds ρe its.length
      { s₂ with heap:=pushCells ((s₂.heap.push { cls:=.type "list",data:=.seq ([]:List Value).toArray }).push { cls:=.type "dict",data:=.dict #[] }) scope.names }:=by
    have Rm:=R2.mask ks
    rw [plain_foot R2 hp] at Rm
    refine ⟨0,maskS ks σ,_,fun a=>O₂ a∨a=s₂.heap.objs.size,fp₂,maskE ks ρ₂,[],ds,[],by simp,Nat.zero_le _,I1,?_,fun b hb=>?_,Rm.take sm n1 fun a z=>.inl ⟨[],by rw [z]; exact upd_same⟩,⟨mask_get.1,fun j hj=>mask_get.2.1 j hj⟩,Fr.take R2 sm n1,upd_same,⟨.inr rfl,fun i z=>?_⟩,.nil,Nat.le_refl _,by simpa using hL,rfl⟩
    · exact T.keep 0 _ _ st fun b hb o e=>pushCells_keeps _ _ _ _ (Heap.get?_push_of_some _ (Heap.get?_push_of_some _ e))
    · obtain ⟨o,ho⟩:=hobj b hb
      rw [upd_ne (Nat.ne_of_lt (Heap.lt_size ho))]
      exact (fo b hb).1
    · exact (R2.lst _ (R2.sub i _ z)).ne hfr
  have loop:=blk_loop (pos:=pos) (iter:=iter) hc rfl (b.tg (s₂.heap.objs.size+1) (cellsFrom (s₂.heap.objs.size+2) scope.names (clF X.env.cells scope.names [])) s₂ H₂ fpi) (b.ifs _ _ _ _ _) (b.elt _ _ _ _ _) I1.ok T W hz R2.lst hfr
    (RR:=compPost (model X.prog X.w) X.A X.xe use Q (.ref s₂.heap.objs.size) (s₂.heap.objs.size+1)) (fun σ' H' O' fp' vs s' I' R' ag F' ha hfl hd=>by
      have Ib:Inv X pins σ H' s':=I.call' (ch:=fpi) I'.os I'.base I'.hok I'.bare fun b hb=>⟨(fo b hb).2.2.2.1,(fo b hb).2.1,(fo b hb).2.2.2.2.1,(fo b hb).2.2.2.2.2⟩
      refine k _ _ s' H' O' fp' Ib (Rel.unmask R2 hp R' ag (F'.tk R2.lst) hn) ⟨[s₂.heap.objs.size],⟨_,vs,rfl,ha,hd,rfl⟩,by simp,fun a z=>?_⟩ F' (I.fpOk (Nat.le_succ _) I'.free) (let ⟨m,h,_⟩:=I'.loc; ⟨m,h⟩)
      have z':a=s₂.heap.objs.size:=by simpa using z
      subst z'
      exact ⟨hfl,fun z=>(R2.lst _ z.1).ne hfr⟩) start
  exact codeAny_compStart_list loop (T.self _ 0 _ _ _ (T.keep 0 _ _ st fun b hb o e=>pushCells_keeps _ _ _ _ (Heap.get?_push_of_some _ (Heap.get?_push_of_some _ e))) loop)
theorem mComp_of {r:R}(hf:mComp ks g it c f ρ=some (r,ρ')):∃ its ρ2 ds ρe,it ρ=some (its,ρ2)∧its.length < big∧ks.all (plainAt ρ2)=true∧compL g c f its (maskE ks ρ2)=some (ds,ρe)∧ks.all (noOwn ρe)=true∧r=.of (.own ds)∧ρ'=unmask ks ρ2 ρe:=by
  obtain ⟨⟨its,ρ2⟩,h1,hf⟩:=bind_some hf
  dsimp only at hf
  split at hf
  · rename_i hz
    obtain ⟨⟨ds,ρe⟩,h2,hf⟩:=bind_some hf
    dsimp only at hf
    split at hf
    · rename_i hn
      cases hf
      exact ⟨its,ρ2,ds,ρe,h1,hz.1,hz.2,h2,hn,rfl,rfl⟩
    · cases hf
  · cases hf
theorem names_of (c:CompOk scope X.env.scope.names X.N ks):∀ x∈scope.names,x.2=.local→scope.names.lookup x.1=some .local:=fun x hx h=>by
  obtain ⟨y,kd⟩:=x
  have h:kd=.local:=h
  subst h
  exact lookup_of_mem c.nd hx
theorem q_comp (hc:X.calm=true)(hi:QI X tg iter it)(b:Blk X scope ks tg ifs elt g c f)(hs:∀ x,foldedSetIterable iter X.env x=pure x:=by intro _; rfl):QE X (.ListComp elt [⟨tg,iter,ifs,0⟩] scope pos) (mComp ks g it c f):=by
  intro pins s σ H Q I ⟨B,ρ,O,fp,r,ρ',R,hf,k⟩
  obtain ⟨its,ρ2,ds,ρe,h1,hz,hp,hL,hn,rfl,rfl⟩:=mComp_of hf
  rw [eval_ListComp]
  refine wpAny_comprehension_free (use:=none) rfl hs (closure_pure fun x hx=>I.ok.has x (b.ok.free x hx)) b.ok.kind (names_of b.ok) ?_
  refine thn (hi pins s σ H (fun J H'=>∃ O' fp',Rel X.K B ρ2 σ H' O' fp'∧Fr H O fp H' O' fp'∧Walk X.K J its H' O' fp') I ⟨B,ρ,O,fp,its,ρ2,R,h1,fun J H' O' fp' R' F' W'=>⟨O',fp',R',F',W'⟩⟩) fun v s1 q1=>thn q1 fun itv s2 q2=>?_
  obtain ⟨i0,fpi,tn,J,H2,e,I2,T,st2,f2,O2,fp2,R2,F2,W2⟩:=q2
  subst e
  refine blk_run hc b I2 R2 T st2 f2 W2 hz hp hL hn fun acc C s' H' O' fp' I' R' k' F' fC hN=>?_
  obtain ⟨m,hm⟩:=hN
  refine ⟨m,hm,fun h' sb=>⟨.ref acc,H',?_,rfl,k _ H' O' fp' R' (k'.back F2.fl) (F2.trans F')⟩⟩
  exact I'.turned (t':=s'.toks) (fun b o hb e=>(sb.2 b hb).trans e) fC.1 fC.2.1 fC.2.2.2.1 fC.2.2.2.2.1 fC.2.2.2.2.2
end
end Mi
namespace Mi
open PySem L2
open PySem.Spec
section
variable {X:Cx}{elt tg iter:Expr}{ifs:List Expr}{scope:Scope}{pos py spos:Pos}{ks:List Nat}{g:MG}{it:M (List Slot)}{c:M Bool}{f:M R}{i:Nat}{x:Str}
theorem qs_setC (hc:X.calm=true)(hN:X.N.Nodup)(hi':X.N[i]?=some x)(hx:X.env.scope.names.lookup x=some .local)(hi:QI X tg iter it)(b:Blk X scope ks tg ifs elt g c f)
    (hsw:swapsWith (.ListComp elt [⟨tg,iter,ifs,0⟩] scope pos) (some (.Name x py)) spos.line X.env=pure true:=by rfl) (hs:∀ x,foldedSetIterable iter X.env x=pure x:=by intro _; rfl):
    QS X (.Assign [.Name x py] (.ListComp elt [⟨tg,iter,ifs,0⟩] scope pos) spos) (sSet i (mComp ks g it c f)):=by
  intro pins s σ H Dn I h
  obtain ⟨B,ρ,O,fp,o,R,hg,k⟩:=h
  obtain ⟨⟨xr,ρ'⟩,hf,hg⟩:=bind_some hg
  obtain ⟨its,ρ2,ds,ρe,h1,hz,hp,hL,hn,rfl,rfl⟩:=mComp_of hf
  dsimp only at hg
  split at hg
  · rename_i hlt
    cases hg
    rw [exec_Assign_Name_used _ _ _ _ hsw]
    refine wpAny_bind (wpAny_standAt (wpAny_bind ?_))
    show wpAny _ X.A (do let _ ←comprehension (.ListComp elt [⟨tg,iter,ifs,0⟩] scope pos) scope X.env _ (newList []) false (eval iter X.env) (some (assign (.Name x py) X.env))) _ _ s
    refine wpAny_bind (wpAny_mono (wpAny_comprehension_free (use:=some (assign (.Name x py) X.env)) (Q:=fun _ s'=>SP X pins Dn .next s') rfl hs (closure_pure fun x hx=>I.ok.has x (b.ok.free x hx)) b.ok.kind (names_of b.ok) ?_) (fun _ s' hq=>wpAny_pure (wpAny_pure hq)) fun _ _ e=>e)
    refine thn (hi pins s σ H (fun J H'=>∃ O' fp',Rel X.K B ρ2 σ H' O' fp'∧Fr H O fp H' O' fp'∧Walk X.K J its H' O' fp') I ⟨B,ρ,O,fp,its,ρ2,R,h1,fun J H' O' fp' R' F' W'=>⟨O',fp',R',F',W'⟩⟩) fun v s1 q1=>thn q1 fun itv s2 q2=>?_
    obtain ⟨i0,fpi,tn,J,H2,e,I2,T,st2,f2,O2,fp2,R2,F2,W2⟩:=q2
    subst e
    refine blk_run hc b I2 R2 T st2 f2 W2 hz hp hL hn fun acc C s' H' O' fp' I' R' k' F' fC hN'=>?_
    obtain ⟨m,hm⟩:=hN'
    show wpAny _ X.A (assign (.Name x py) X.env (.ref acc)) _ _ _
    refine wpAny_assign_Name (store_ok2 I' hN hi' (.inl hx) (show RelV (.ref acc) (.ref acc) from rfl) (fun s'' I'' ⟨a,sb,ha⟩=>?_) (.inr hx))
    have hCa:C≠a:=fun z=>by
      rcases ha with q | q
      · exact fC.2.1 (z.trans q)
      · exact fC.2.2.2.2.1 x a q z.symm
    refine ⟨m,hm.sameBut sb hCa,fun h' sb'=>?_⟩
    obtain ⟨fr,hs',nd,hff⟩:=k'
    refine ⟨σ.set i (some (.ref acc)),H',I''.turned (t':=s''.toks) (fun b o hb e=>(sb'.2 b hb).trans e) fC.1 fC.2.1 fC.2.2.2.1 fC.2.2.2.2.1 fC.2.2.2.2.2,?_⟩
    exact k _ H' O' _ (R'.set hs' nd (fun a ha=>(hff a ha).1) hlt) ((F2.trans F').set i fun a ha z=>(hff a ha).2 (F2.fl a z))
  · cases hg
end
end Mi
namespace Mi
open PySem L2
open PySem.Spec
variable {K:PySem.W.Frag}{H H':Hp}{O O':Addr→Prop}{fp fp':Nat→List Addr}{B:Hp}{ρ ρ':En}{σ:L2.St}
mutual
noncomputable def toP:D→PyData
  | .non=>.none
  | .bl b=>.bool b
  | .int i=>.int i
  | .str x=>.str x
  | .tup ds=>.tuple (toPs ds)
  | .fn _=>.str ⟨#[1114112]⟩
  | .dct _=>.str ⟨#[1114112]⟩
noncomputable def toPs:List D→List PyData
  | []=>[]
  | d::r=>toP d::toPs r
end
noncomputable def toPss:List (List D)→List PyData
  | []=>[]
  | ds::r=>.list (toPs ds)::toPss r
noncomputable def toS:Slot→PyData
  | .val d=>toP d
  | .fz ds=>.list (toPs ds)
  | .own ds=>.list (toPs ds)
  | .fz2 dss=>.list (toPss dss)
  | .own2 dss=>.list (toPss dss)
  | .any=>.str ⟨#[1114112]⟩
  | .dct _=>.str ⟨#[1114112]⟩
section
variable {X:Cx}{pins:List (Addr×Obj)}{s:Shared}
mutual
theorem reads_is (I:Inv X pins σ H s):∀ (d:D) (v:V) (u:Value),(toP d).canLay0=true→Is X.K H d v→RelV v u→∃ as,Reads s.heap u (toP d) as
  | .fn x,v,u,hz,h,r=>by
    have hz:(PyData.str ⟨#[1114112]⟩).canLay0=true:=hz
    simp [PyData.canLay0,PyData.strOk] at hz
  | .dct x,v,u,hz,h,r=>by
    have hz:(PyData.str ⟨#[1114112]⟩).canLay0=true:=hz
    simp [PyData.canLay0,PyData.strOk] at hz
  | .non,v,u,_,h,r=>by
    have h:v=.non:=h
    subst h
    have r:u=Value.none:=r
    subst r
    exact ⟨[],.none⟩
  | .bl b,v,u,_,h,r=>by
    have h:v=.bl b:=h
    subst h
    have r:u=Value.bool b:=r
    subst r
    exact ⟨[],.bool b⟩
  | .int i,v,u,_,h,r=>by
    have h:v=.int i:=h
    subst h
    obtain ⟨t,rfl⟩:=r
    exact ⟨[],.int i t⟩
  | .str x,v,u,_,h,r=>by
    have h:v=.str x:=h
    subst h
    obtain ⟨t,rfl⟩:=r
    exact ⟨[],.str x t⟩
  | .tup ds,v,u,hz,h,r=>by
    obtain ⟨a,vs,rfl,q,l⟩:=h
    have r:u=Value.ref a:=r
    subst r
    obtain ⟨its,rv,⟨o,e,c,n,hd⟩,_⟩:=I.tuple q
    obtain ⟨as,ra⟩:=reads_isL I ds vs its hz l rv
    exact ⟨as,.tuple e c hd (by simpa using ra)⟩
theorem reads_isL (I:Inv X pins σ H s):∀ (ds:List D) (vs:List V) (us:List Value),PyData.canLayAll0 (toPs ds)=true→IsL X.K H ds vs→Vals vs us→∃ as,ReadsAll s.heap us (toPs ds) as
  | [],vs,us,_,h,r=>by
    have h:vs=[]:=h
    subst h
    cases r
    exact ⟨[],.nil⟩
  | d::ds,vs,us,hz,h,r=>by
    have hz:((toP d).canLay0 && PyData.canLayAll0 (toPs ds))=true:=hz
    rw [Bool.and_eq_true] at hz
    obtain ⟨v,ws,rfl,h1,h2⟩:=h
    cases r with
    | cons r1 r2=>
      obtain ⟨as,ra⟩:=reads_is I d v _ hz.1 h1 r1
      obtain ⟨bs,rb⟩:=reads_isL I ds ws _ hz.2 h2 r2
      exact ⟨as++bs,.cons ra rb⟩
end
theorem reads_ls (I:Inv X pins σ H s){a:Addr}{vs:List V}{ds:List D}(hz:PyData.canLayAll0 (toPs ds)=true)(q:SqL X.K H a vs)(l:IsL X.K H ds vs):∃ as,Reads s.heap (.ref a) (.list (toPs ds)) as:=by
  obtain ⟨its,rv,⟨o,n,e,c,_,hd⟩,_⟩:=I.list q
  obtain ⟨as,ra⟩:=reads_isL I ds vs its hz l rv
  exact ⟨a::as,.list e c hd (by simpa using ra)⟩
theorem reads_fz (I:Inv X pins σ H s):∀ (dss:List (List D)) (vs:List V) (us:List Value),PyData.canLayAll0 (toPss dss)=true→FzL X.K H O dss vs→Vals vs us→∃ as,ReadsAll s.heap us (toPss dss) as
  | [],vs,us,_,h,r=>by
    have h:vs=[]:=h
    subst h
    cases r
    exact ⟨[],.nil⟩
  | ds::dss,vs,us,hz,h,r=>by
    have hz:(PyData.canLayAll0 (toPs ds) && PyData.canLayAll0 (toPss dss))=true:=hz
    rw [Bool.and_eq_true] at hz
    obtain ⟨a,ws,rr,rfl,h1,h2,h3⟩:=h
    cases r with
    | cons r1 r2=>
      obtain ⟨as,ra⟩:=reads_ls I hz.1 h1.sq h2
      have r1:_=Value.ref a:=r1
      subst r1
      obtain ⟨bs,rb⟩:=reads_fz I dss rr _ hz.2 h3 r2
      exact ⟨as++bs,.cons ra rb⟩
theorem reads_slot (I:Inv X pins σ H s){t:Slot}{v:V}{u:Value}(hz:(toS t).canLay0=true)(h:RdOk X.K H t v)(r:RelV v u):∃ as,Reads s.heap u (toS t) as:=by
  cases t with
  | val d=>exact reads_is I d v u hz h.1 r
  | fz ds=>
    obtain ⟨⟨a,vs,rfl,q,l⟩,_⟩:=h
    have r:u=Value.ref a:=r
    subst r
    exact reads_ls I hz q.sq l
  | fz2 dss=>
    obtain ⟨⟨a,vs,rfl,q,l⟩,_⟩:=h
    have r:u=Value.ref a:=r
    subst r
    obtain ⟨its,rv,⟨o,n,e,c,_,hd⟩,_⟩:=I.list q.sq
    obtain ⟨as,ra⟩:=reads_fz I dss vs its hz l rv
    exact ⟨a::as,.list e c hd (by simpa using ra)⟩
  | own ds=>
    obtain ⟨p,vs,rfl,q,l,z⟩:=h
    cases z
  | own2 dss=>
    obtain ⟨p,vs,rfl,q,l,z⟩:=h
    cases z
  | any=>
    have hz:(PyData.str ⟨#[1114112]⟩).canLay0=true:=hz
    simp [PyData.canLay0,PyData.strOk] at hz
  | dct m=>
    obtain ⟨p,rfl,q,z⟩:=h
    cases z
end
noncomputable def okP (d:PyData):Bool:=d.canLay0 && decide (d.depth≤60)
noncomputable def gEq (neg:Bool):List Slot→Option Slot:=fun ss=>match ss with
  | [a,b]=>if okP (toS a) && okP (toS b) then some (.val (.bl (if neg then !PyData.eqv (toS a) (toS b) else PyData.eqv (toS a) (toS b)))) else none
  | _=>none
inductive rEqQ (K:PySem.W.Frag)(neg:Bool)(x:V)(y:V)(H:Hp)(Q:VK):Prop
  | mk:∀ a b,(RdOk K H a x)→(RdOk K H b y)→(okP (toS a)=true)→(okP (toS b)=true)→(Q (.bl (if neg then !PyData.eqv (toS a) (toS b) else PyData.eqv (toS a) (toS b))) H)→rEqQ K neg x y H Q
section
variable {X:Cx}{a b e:Expr}{f g:M R}{pos:Pos}
theorem okP_of {d:PyData}(h:okP d=true):d.canLay0=true∧d.depth≤60:=by
  simpa [okP] using h
theorem op_eqQ (hu:X.A.units+64 < cLine):OpR X (compareOp .Eq) (rEqQ X.K false):=fun pins s σ H x y v u Q I rx ry h=>by
  obtain ⟨p,q,h1,h2,h3,h4,hq⟩:=h
  obtain ⟨c1,d1⟩:=okP_of h3
  obtain ⟨c2,d2⟩:=okP_of h4
  obtain ⟨as,ra⟩:=reads_slot I c1 h1 rx
  obtain ⟨bs,rb⟩:=reads_slot I c2 h2 ry
  exact SeqAt.compareEq_reads ra rb c1 c2 (by lia) ⟨.bl _,H,I,rfl,hq⟩
theorem op_neQ (hu:X.A.units+64 < cLine):OpR X (compareOp .NotEq) (rEqQ X.K true):=fun pins s σ H x y v u Q I rx ry h=>by
  obtain ⟨p,q,h1,h2,h3,h4,hq⟩:=h
  obtain ⟨c1,d1⟩:=okP_of h3
  obtain ⟨c2,d2⟩:=okP_of h4
  obtain ⟨as,ra⟩:=reads_slot I c1 h1 rx
  obtain ⟨bs,rb⟩:=reads_slot I c2 h2 ry
  exact SeqAt.compareNe_reads ra rb c1 c2 (by lia) ⟨.bl _,H,I,rfl,hq⟩
theorem sr_eq {neg:Bool}:SR K (gEq neg) (r2 (rEqQ K neg)):=fun H ss vs s Q hr h k=>by
  unfold gEq at h
  split at h
  · rename_i a b
    split at h
    · rename_i hz
      rw [Bool.and_eq_true] at hz
      cases h
      obtain ⟨v,us,rfl,h1,u,ws,rfl,h2,h3⟩:=hr
      have h3:ws=[]:=h3
      subst h3
      exact ⟨v,u,rfl,a,b,h1,h2,hz.1,hz.2,k _ H (Same.refl H) rfl⟩
    · cases h
  · cases h
theorem q_eq (hu:X.A.units+64 < cLine)(ha:QE X a f)(hb:QE X b g):QE X (.Compare a [.Eq] [b] pos) (mOpF (gEq false) (mCons f (mCons g mNil))):=q_cmp (op_eqQ hu) sr_eq ha hb (nomark _)
theorem q_ne (hu:X.A.units+64 < cLine)(ha:QE X a f)(hb:QE X b g):QE X (.Compare a [.NotEq] [b] pos) (mOpF (gEq true) (mCons f (mCons g mNil))):=q_cmp (op_neQ hu) sr_eq ha hb (nomark _)
theorem qt_eq (hu:X.A.units+64 < cLine)(ha:QE X a f)(hb:QE X b g):QT X (.Compare a [.Eq] [b] pos) (mTru (mOpF (gEq false) (mCons f (mCons g mNil)))):=qt_cmp (op_eqQ hu) sr_eq ha hb (nomark _)
theorem qt_ne (hu:X.A.units+64 < cLine)(ha:QE X a f)(hb:QE X b g):QT X (.Compare a [.NotEq] [b] pos) (mTru (mOpF (gEq true) (mCons f (mCons g mNil)))):=qt_cmp (op_neQ hu) sr_eq ha hb (nomark _)
noncomputable def tyN:Slot→String
  | .val .non => "NoneType"
  | .val (.bl _) => "bool"
  | .val (.int _) => "int"
  | .val (.str _) => "str"
  | .val (.tup _) => "tuple"
  | _ => "list"
noncomputable def isT (t T:String):Bool:=t == T || (t == "bool" && T == "int")
noncomputable def gIsi (T:String):List Slot→Option Slot:=fun ss=>match ss with
  | [.val (.fn _)]=>none
  | [.val (.dct _)]=>none
  | [.any]=>none
  | [s]=>some (.val (.bl (isT (tyN s) T)))
  | _=>none
structure Kit (K:PySem.W.Frag)(T:String):Prop where
  at_:∀ t∈["NoneType","bool","int","str","tuple","list"],PySem.W.kitOne K (.type t) (.type T)=some (isT t T)
theorem isi_slot {pins:List (Addr×Obj)}{s:Shared}{σ:L2.St}{H:Hp}{t:Slot}{v:V}{u:Value}{T:String}{A:Around}{E:Value→Shared→Prop}{Q:Value→Shared→Prop}(kt:Kit X.K T)(I:Inv X pins σ H s)(h:RdOk X.K H t v)(r:RelV v u)(hfn:((∀ x,t≠.val (.fn x))∧∀ x,t≠.val (.dct x))∧t≠.any)
    (k:∀ tk,Q (.bool (isT (tyN t) T)) { s with toks:=tk }):wpAny (model X.prog X.w) A (call (.builtin "isinstance") [u,.type T]) Q E s:=by
  have lst:∀ {a:Addr} {vs:List V},SqL X.K H a vs→tyN t = "list" → u=.ref a→wpAny (model X.prog X.w) A (call (.builtin "isinstance") [u,.type T]) Q E s:=fun {a vs} q et eu=>by
    subst eu
    rw [et] at k
    obtain ⟨its,rv,⟨o,n,e,c,_,hd⟩,_⟩:=I.list q
    exact PySem.W.kia_one PySem.W.kitx_list I.kIn ⟨o,e,c⟩ (kt.at_ "list" (by simp)) (fun z=>nomatch z) k
  cases t with
  | val d=>
    cases d with
    | fn x=>exact absurd rfl (hfn.1.1 x)
    | dct x=>exact absurd rfl (hfn.1.2 x)
    | non=>
      have h:v=.non:=h.1
      subst h
      have r:u=Value.none:=r
      subst r
      exact PySem.W.kia_one PySem.W.kitx_none I.kIn True.intro (kt.at_ "NoneType" (by simp)) (fun z=>nomatch z) k
    | bl b=>
      have h:v=.bl b:=h.1
      subst h
      have r:u=Value.bool b:=r
      subst r
      exact PySem.W.kia_one PySem.W.kitx_bool I.kIn True.intro (kt.at_ "bool" (by simp)) (fun z=>nomatch z) k
    | int i=>
      have h:v=.int i:=h.1
      subst h
      obtain ⟨tk,rfl⟩:=r
      exact PySem.W.kia_one PySem.W.kitx_int I.kIn True.intro (kt.at_ "int" (by simp)) (fun z=>nomatch z) k
    | str x=>
      have h:v=.str x:=h.1
      subst h
      obtain ⟨tk,rfl⟩:=r
      exact PySem.W.kia_one PySem.W.kitx_str I.kIn True.intro (kt.at_ "str" (by simp)) (fun z=>nomatch z) k
    | tup ds=>
      obtain ⟨⟨a,vs,rfl,q,l⟩,_⟩:=h
      have r:u=Value.ref a:=r
      subst r
      obtain ⟨its,rv,⟨o,e,c,n,hd⟩,_⟩:=I.tuple q
      exact PySem.W.kia_one PySem.W.kitx_tuple I.kIn ⟨o,e,c⟩ (kt.at_ "tuple" (by simp)) (fun z=>nomatch z) k
  | fz ds=>
    obtain ⟨⟨a,vs,rfl,q,l⟩,_⟩:=h
    exact lst q.sq rfl r
  | fz2 dss=>
    obtain ⟨⟨a,vs,rfl,q,l⟩,_⟩:=h
    exact lst q.sq rfl r
  | own ds=>
    obtain ⟨p,vs,rfl,q,l,z⟩:=h
    cases z
  | own2 dss=>
    obtain ⟨p,vs,rfl,q,l,z⟩:=h
    cases z
  | any=>exact absurd rfl hfn.2
  | dct m=>
    obtain ⟨p,rfl,q,z⟩:=h
    cases z
inductive rIsi (K:PySem.W.Frag)(T:String)(xs:List V)(H:Hp)(Q:VK):Prop
  | mk:∀ t v,(xs=[v,.ty T])→(RdOk K H t v)→((((∀ x,t≠.val (.fn x))∧∀ x,t≠.val (.dct x))∧t≠.any))→(Q (.bl (isT (tyN t) T)) H)→rIsi K T xs H Q
theorem call_isi {T:String}(kt:Kit X.K T):CallR X (.builtin "isinstance") (rIsi X.K T):=fun pins s σ H xs us Q I r h=>by
  obtain ⟨t,v,rfl,h1,hfn,hq⟩:=h
  obtain ⟨u,w',rfl,r1,r2⟩:=vals2 r
  have r2:w'=Value.type T:=r2
  subst r2
  exact isi_slot kt I h1 r1 hfn fun tk=>⟨.bl _,H,I.tok tk,rfl,hq⟩
theorem q_isi {x T:Str}{Tn:String}{p p2:Pos}(kt:Kit X.K Tn)(hg:Gl X "isinstance")(hm:X.mg "isinstance" = none)(hgT:Gl X T)(hmT:X.mg T=none)(hbT:bootBuiltins T=some (.type Tn))(ha:QE X a f)
    (hnT:T ≠ "__name__" := by decide) (hdT:(T == ("__debug__" : Str))=false:=by decide)
    (he:starEach [a,.Name T p2] X.env=(false,eval a X.env)::starEach [.Name T p2] X.env:=by rfl) (hpl:(backTo pos (starEach [.Name T p2] X.env)).any (·.1)=false:=by rfl):
    QE X (.Call (.Name "isinstance" p) [a,.Name T p2] [] pos) (mOpF (gIsi Tn) (mCons f mNil)):=by
  have hp:PE X (.Call (.Name "isinstance" p) [a,.Name T p2] [] pos) _:=pe_callB (call_isi kt) hg hm PyProof.Rows.boot_isinstance (pa_cons ha (pa_cons (pe_bltn (v:=.ty Tn) hgT hmT hbT rfl hnT hdT) pa_nil) he) (by decide) (by decide) he hpl
  refine hp.imp fun σ H Q zq=>?_
  obtain ⟨B,ρ,O,fp,x,ρ',R,hf,k⟩:=zq
  obtain ⟨⟨rs,ρ1⟩,h1,hf⟩:=bind_some hf
  obtain ⟨ss,h2,hf⟩:=bind_some hf
  obtain ⟨s,h3,hf⟩:=bind_some hf
  obtain ⟨t,h4,hf⟩:=bind_some hf
  cases hf
  obtain ⟨⟨y,ρ2⟩,q1,q2⟩:=bind_some h1
  cases q2
  obtain ⟨w,q3,q4⟩:=bind_some h2
  cases q4
  have h3:gIsi Tn [rdS w]=some s:=h3
  have hfn:((∀ x,rdS w≠.val (.fn x))∧∀ x,rdS w≠.val (.dct x))∧rdS w≠.any:=⟨⟨fun x z=>(by rw [z] at h3; cases h3),fun x z=>(by rw [z] at h3; cases h3)⟩,fun z=>(by rw [z] at h3; cases h3)⟩
  have e3:some (Slot.val (.bl (isT (tyN (rdS w)) Tn)))=some s:=by
    unfold gIsi at h3
    split at h3
    · cases h3
    · cases h3
    · cases h3
    · rename_i z
      cases z
      exact h3
    · cases h3
  cases e3
  cases h4
  refine ⟨B,ρ,O,fp,y,ρ2,R,q1,fun v H1 O1 fp1 R1 k1 F1=>⟨rdS w,v,rfl,?_,hfn,?_⟩⟩
  · obtain ⟨ft,hs⟩:=R1.dr k1 q3
    exact hs.rd
  · exact k _ H1 O1 fp1 R1 ⟨[],⟨rfl,rfl⟩,List.nodup_nil,fun a z=>by simp at z⟩ F1
end
end Mi
namespace Mi
open PySem L2
open PySem.Spec
variable {K:PySem.W.Frag}{H H':Hp}{O O':Addr→Prop}{fp fp':Nat→List Addr}{B:Hp}{ρ ρ':En}{σ:L2.St}
theorem ints_items {ns:List Int}{us:List Value}(r:Vals (ns.map V.int) us):∃ xs:Array (Int×Tok),us.toArray=intItems xs∧xs.toList.map (·.1)=ns:=by
  induction ns generalizing us with
  | nil=>cases r; exact ⟨#[],by simp [intItems],rfl⟩
  | cons n ns ih=>
    cases r with
    | cons r1 r2=>
      obtain ⟨xs,e1,e2⟩:=ih r2
      obtain ⟨t,rfl⟩:=r1
      refine ⟨((n,t)::xs.toList).toArray,?_,by simp [e2]⟩
      have e3:=congrArg Array.toList e1
      simp only [intItems,Array.toList_map] at e3
      rw [show (_::_:List Value).toArray=_ from rfl]
      simp only [intItems]
      rw [←Array.toList_inj]
      simp [←e3]
section
variable {X:Cx}
theorem sum_eq (xs:Array (Int×Tok)):preSum (numAt xs) xs.size=(xs.toList.map (·.1)).sum:=by rw [preSum_eq,List.take_of_length_le (by simp)]
theorem call_sumL (hc:X.calm=true):CallR X (.builtin "sum") (fun xs H Q=>∃ (p:Addr) (ns:List Int),xs=[.ref p]∧SqL X.K H p (ns.map .int)∧Q (.int ns.sum) H):=fun pins s σ H xs us Q I r h=>by
  obtain ⟨p,ns,rfl,hp,hq⟩:=h
  obtain ⟨u,rfl,r1⟩:=vals1 r
  have r1:u=Value.ref p:=r1
  subst r1
  obtain ⟨its,rv,pl,hz⟩:=I.list hp
  obtain ⟨ys,e1,e2⟩:=ints_items rv
  have hl:=pl.isList
  rw [e1] at hl
  refine sum_intListG (I.ok.hd hc) hl fun h' tk t' kp=>⟨.int _,H,I.kept kp,⟨t',?_⟩,hq⟩
  rw [sum_eq,e2]
theorem call_sumT (hc:X.calm=true):CallR X (.builtin "sum") (fun xs H Q=>∃ (p:Addr) (ns:List Int),xs=[.ref p]∧SqT X.K H p (ns.map .int)∧Q (.int ns.sum) H):=fun pins s σ H xs us Q I r h=>by
  obtain ⟨p,ns,rfl,hp,hq⟩:=h
  obtain ⟨u,rfl,r1⟩:=vals1 r
  have r1:u=Value.ref p:=r1
  subst r1
  obtain ⟨its,rv,pl,hz⟩:=I.tuple hp
  obtain ⟨ys,e1,e2⟩:=ints_items rv
  have hl:s.heap.IsTuple p (intItems ys):=by rw [←e1]; exact pl
  have hlt:p < s.heap.objs.size:=by obtain ⟨_,e,_⟩:=hl; exact Heap.lt_size e
  refine call_sum_walkG (wpAny_pyIter_tuple hl ?_)
  refine ⟨s.heap.objs.size,[s.heap.objs.size,p],[s.heap.objs.size],_,_,_,numAt ys,rfl,Walks.tuple (A:=X.A.in1) (I.ok.hd hc) _ p (Nat.ne_of_lt hlt) (intItems ys),⟨⟨_,Heap.get?_push_size _ rfl,rfl,rfl⟩,?_⟩,fun b hb=>?_,(fun _ _=>intItems_at),fun h' tk t' hk=>?_⟩
  · obtain ⟨o,e,c⟩:=hl
    exact ⟨o,Heap.get?_push_of_some _ e,c⟩
  · show b < (s.heap.push _).objs.size
    rw [Heap.size_push]
    rcases List.mem_cons.mp hb with z | z
    · rw [z]; exact Nat.lt_succ_self _
    · have z':b=p:=by simpa using z
      rw [z']; exact Nat.lt_succ_of_lt hlt
  · have kp:∀ b o,s.heap.get? b=some o→h'.get? b=some o:=fun b o e=>hk b o (fun z=>by
      have z':b=s.heap.objs.size:=by simpa using z
      exact absurd (Heap.lt_size e) (by rw [z']; exact Nat.lt_irrefl _)) (Heap.get?_push_of_some _ e)
    refine ⟨.int _,H,I.kept (t':=tk) kp,⟨t',?_⟩,hq⟩
    rw [show (intItems ys).size=ys.size by simp [intItems],sum_eq,e2]
noncomputable def intsOf:List D→Option (List Int)
  | []=>some []
  | .int i::r=>(intsOf r).bind fun ns=>some (i::ns)
  | _=>none
theorem intsOf_eq:∀ {ds:List D} {ns:List Int},intsOf ds=some ns→ds=ns.map D.int
  | [],ns,h=>by cases h; rfl
  | .int i::r,ns,h=>by
    obtain ⟨ms,h1,h⟩:=bind_some h
    cases h
    rw [intsOf_eq h1]; rfl
  | .non::_,_,h=>by cases h
  | .bl _::_,_,h=>by cases h
  | .str _::_,_,h=>by cases h
  | .tup _::_,_,h=>by cases h
  | .fn _::_,_,h=>by cases h
  | .dct _::_,_,h=>by cases h
theorem intsOf_map (ns:List Int):intsOf (ns.map D.int)=some ns:=by
  induction ns with
  | nil=>rfl
  | cons n r ih=>show ((intsOf (r.map D.int)).bind fun ns=>some (n::ns))=_; rw [ih]; rfl
noncomputable def gSum:List Slot→Option Slot:=fun ss=>match ss with
  | [.val (.tup ds)]=>(intsOf ds).bind fun ns=>some (.val (.int ns.sum))
  | [.fz ds]=>(intsOf ds).bind fun ns=>some (.val (.int ns.sum))
  | _=>none
theorem sr_sum:SR K gSum (fun xs H Q=>(∃ (p:Addr) (ns:List Int),xs=[.ref p]∧SqL K H p (ns.map .int)∧Q (.int ns.sum) H)∨∃ (p:Addr) (ns:List Int),xs=[.ref p]∧SqT K H p (ns.map .int)∧Q (.int ns.sum) H):=fun H ss vs s Q hr h k=>by
  unfold gSum at h
  split at h
  · rename_i ds
    obtain ⟨ns,h1,h⟩:=bind_some h
    cases h
    obtain ⟨v,us,rfl,⟨⟨a,ws,rfl,q,l⟩,_⟩,h2⟩:=hr
    have h2:us=[]:=h2
    subst h2
    rw [intsOf_eq h1] at l
    rw [l.ints] at q
    exact .inr ⟨a,ns,rfl,q,k _ H (Same.refl H) rfl⟩
  · rename_i ds
    obtain ⟨ns,h1,h⟩:=bind_some h
    cases h
    obtain ⟨v,us,rfl,⟨⟨a,ws,rfl,q,l⟩,_⟩,h2⟩:=hr
    have h2:us=[]:=h2
    subst h2
    rw [intsOf_eq h1] at l
    rw [l.ints] at q
    exact .inl ⟨a,ns,rfl,q.sq,k _ H (Same.refl H) rfl⟩
  · cases h
theorem call_sum (hc:X.calm=true):CallR X (.builtin "sum") (fun xs H Q=>(∃ (p:Addr) (ns:List Int),xs=[.ref p]∧SqL X.K H p (ns.map .int)∧Q (.int ns.sum) H)∨∃ (p:Addr) (ns:List Int),xs=[.ref p]∧SqT X.K H p (ns.map .int)∧Q (.int ns.sum) H):=
  (call_sumL hc).or (call_sumT hc)
end
noncomputable def Ite (K:PySem.W.Frag)(a:Addr):It:=
  ⟨fun i H=>∃ xs x,SqL K H a xs∧xs[i]?=some x,fun i H y H'=>∃ p x,H p=none∧y=.ref p∧H'=upd H p (.tup [.int i,x])∧∀ xs,SqL K H a xs→xs[i]?=some x,fun i H=>∃ xs,SqL K H a xs∧xs.length≤i⟩
theorem turn_enum {P:Program}{w:World}{K:PySem.W.Frag}{elts:List Expr}{x1:Nat}{pos:Pos}(a e it:Addr)(hne:e≠it):Turn P w K (.Tuple elts x1 pos) (Ite K a) [e,it] e (fun i h=>(∃ old,IsEnum h e it i old)∧h.IsListIter it a i) where
  mem:=by simp
  obj:=fun i h st b hb=>by
    obtain ⟨⟨old,h1⟩,o,e2,c,d⟩:=st
    rcases List.mem_cons.mp hb with z | z
    · subst z
      exact ⟨_,h1,fun v z=>by
        have z':Data.fields _=Data.cell v:=z
        cases z'⟩
    · have z':b=it:=by simpa using z
      subst z'
      exact ⟨o,e2,fun v z=>by rw [d] at z; cases z⟩
  keep:=fun i h h' st k=>by
    obtain ⟨⟨old,h1⟩,h2⟩:=st
    exact ⟨⟨old,k e (by simp) _ h1⟩,h2.at fun o e=>k it (by simp) o e⟩
  item:=by
    intro X hP hw hK hc i pins s σ H E I hf st hg
    subst hP hw hK
    obtain ⟨⟨old,h1⟩,h2⟩:=st
    obtain ⟨xs,x,hq,hx⟩:=hg
    obtain ⟨its,rv,p,hz⟩:=I.list hq
    obtain ⟨u,hu,ru⟩:=rv.get hx
    refine wpAny_pyNext_enum_item h1 h2 p.isList (x:=u) (by simpa using hu) hne fun h' ho hi' ht hsz kp=>?_
    refine ⟨_,rfl,wpAny_letOwnedTupleGo_enum (s:={ s with heap:=h',toks:=s.toks+1 }) ho fun h'' he'' sb=>?_⟩
    obtain ⟨e0,e1,e2,e3,e4,e5⟩:=hf e (by simp)
    obtain ⟨i0,i1,i2,i3,i4,i5⟩:=hf it (by simp)
    have hfr:H s.heap.objs.size=none:=I.hok.fresh (Nat.le_refl _)
    have elt:e < s.heap.objs.size:=Heap.lt_size h1
    have ilt:it < s.heap.objs.size:=let ⟨_,z,_⟩:=h2; Heap.lt_size z
    have kp2:∀ b o,b≠e→b≠it→s.heap.get? b=some o→h''.get? b=some o:=fun b o n1 n2 z=>(sb.2 b n1).trans (kp b o n1 n2 z)
    have ht2:h''.get? s.heap.objs.size=some { cls:=.type "tuple",data:=.seq #[.int i s.toks,u] }:=(sb.2 _ (Nat.ne_of_gt elt)).trans ht
    have nt:∀ b o,H b=some o→b≠e∧b≠it:=fun b o z=>⟨(fun q=>by rw [q,e0] at z; cases z),(fun q=>by rw [q,i0] at z; cases z)⟩
    refine ⟨.ref s.heap.objs.size,upd H s.heap.objs.size (.tup [.int i,x]),?_,rfl,⟨_,x,hfr,rfl,rfl,fun ys hy=>by rw [I.list_inj hy hq]; exact hx⟩,⟨⟨_,by simpa using he''⟩,hi'.at fun o z=>(sb.2 it (Ne.symm hne)).trans z⟩,fun b hb=>?_⟩
    · show Inv X pins σ _ { s with heap:=h'',gens:=s.gens,drawn:=s.drawn,toks:=s.toks+1 }
      refine I.step (g':=s.gens) (d':=s.drawn) (ch:=[e,it]) (fun b hb=>?_) (fun b o _ _ hch z _=>kp2 b o (fun q=>hch (by simp [q])) (fun q=>hch (by simp [q])) z) (fun b o _ _ hch z _=>⟨o.slots,kp2 b o (fun q=>hch (by simp [q])) (fun q=>hch (by simp [q])) z⟩)
        (fun b o _ z n=>by rw [upd_ne (Nat.ne_of_lt (Heap.lt_size z))]; exact n) (fun b o hch z=>⟨o,kp2 b o (fun q=>hch (by simp [q])) (fun q=>hch (by simp [q])) z⟩)
        (fun b ys z=>by rw [upd_ne (ne_of_none z hfr)]; exact z) (fun b o v z=>by rw [upd_ne (ne_of_none z hfr)]; exact z) (fun b ps z=>⟨#[],by rw [upd_ne (ne_of_none z hfr),z]; simp⟩) (fun m hm=>?_) (fun b o z=>?_) I.bare
      · rcases List.mem_cons.mp hb with q | q
        · subst q; exact ⟨e3,e1,e4,e5⟩
        · have q':b=it:=by simpa using q
          subst q'; exact ⟨i3,i1,i4,i5⟩
      · obtain ⟨o,es,ep,z,r⟩:=hm
        exact ⟨o,es,ep,kp2 _ o (Ne.symm e1) (Ne.symm i1) z,r⟩
      · by_cases hb:b=s.heap.objs.size
        · subst hb
          rw [upd_same] at z; cases z
          exact ⟨by show 2≤sizeLine; decide,[.int i s.toks,u],.cons ⟨_,rfl⟩ (.cons ru .nil),⟨_,ht2,rfl,_,rfl⟩⟩
        · rw [upd_ne hb] at z
          refine (I.hok b o z).stay (fun c v hc q=>?_) (fun c q=>by rw [upd_ne (ne_of_none q hfr)]; exact q) fun c ys q=>by rw [upd_ne (ne_of_none q hfr)]; exact q
          rcases hc with hc | hc
          · subst hc; exact kp2 _ _ (nt _ _ z).1 (nt _ _ z).2 q
          · exact kp2 _ _ (nt _ _ hc).1 (nt _ _ hc).2 q
    · rcases List.mem_cons.mp hb with q | q
      · subst q; rw [upd_ne (Nat.ne_of_lt elt)]; exact e0
      · have q':b=it:=by simpa using q
        subst q'; rw [upd_ne (Nat.ne_of_lt ilt)]; exact i0
  done:=by
    intro X hP hw hK hc i pins s σ H E I hf st hg
    subst hP hw hK
    obtain ⟨⟨old,h1⟩,h2⟩:=st
    obtain ⟨xs,hq,hx⟩:=hg
    obtain ⟨its,rv,p,hz⟩:=I.list hq
    obtain ⟨i0,i1,i2,i3,i4,i5⟩:=hf it (by simp)
    have hl:=rv.length
    exact wpAny_pyNext_enum_end (I.ok.hd hc) h1 h2 p.isList (by simp; lia) fun h' eb=>⟨rfl,I.turned (t':=s.toks) (fun b o hb e=>eb b o hb e) i0 i1 i3 i4 i5⟩
  self:=fun _ _ _ _ _ st h=>let ⟨⟨_,h1⟩,_⟩:=st; wpAny_pyIter_enum h1 h
section
variable {X:Cx}{a:Expr}{p pos pt:Pos}{x1:Nat}{elts:List Expr}
noncomputable def iEnum (K:PySem.W.Frag)(ta:TA):TI:=fun σ H R=>ta σ H fun vs H1=>∃ b xs,vs=[.ref b]∧SqL K H1 b xs∧R (Ite K b) H1
theorem pi_enum {ta:TA}(hg:Gl X "enumerate")(hm:X.mg "enumerate" = none)(ha:PA X [a] ta)(hs:starEach [a] X.env=[(false,eval a X.env)]:=by rfl):PI X (.Tuple elts x1 pt) (.Call (.Name "enumerate" p) [a] [] pos) (iEnum X.K ta):=by
  intro pins s σ H R I h
  refine PyProof.Rows.Call_ (ld_blt I hg hm PyProof.Rows.boot_enumerate (PyProof.Rows.callWith_type1 (thn (ha pos pins s σ H _ I h) fun us s1 ⟨vs,H1,I1,r1,q1⟩=>?_) hs rfl))
  obtain ⟨b,xs,e,hq,q⟩:=q1
  subst e
  obtain ⟨u,rfl,ru⟩:=vals1 r1
  have ru:u=Value.ref b:=ru
  subst ru
  obtain ⟨its,rv,pl,hz⟩:=I1.list hq
  refine call_enumerate_list pl.isList fun h' he hi hsz kp=>wpAny_pyIter_enum (s:={ s1 with heap:=h' }) he ?_
  have ne:s1.heap.objs.size+1≠s1.heap.objs.size:=Nat.ne_of_gt (Nat.lt_succ_self _)
  refine ⟨s1.heap.objs.size+1,[s1.heap.objs.size+1,s1.heap.objs.size],_,_,H1,rfl,I1.kept (t':=s1.toks) kp,turn_enum b _ _ ne,⟨⟨_,he⟩,hi⟩,fun c hc=>?_,q⟩
  rcases List.mem_cons.mp hc with z | z
  · subst z; exact I1.fpOk (Nat.le_succ _) (I1.hok.fresh (Nat.le_succ _))
  · have z':c=s1.heap.objs.size:=by simpa using z
    subst z'; exact I1.fpOk (Nat.le_refl _) (I1.hok.fresh (Nat.le_refl _))
noncomputable def enumD (ds:List D):List Slot:=(List.range ds.length).map fun (i:Nat)=>.val (.tup [.int (i:Int),ds.getD i .non])
noncomputable def mEnum (f:M (List R)):M (List Slot):=fun ρ=>(f ρ).bind fun x=>match x.1 with
  | [.of (.fz ds)]=>some (enumD ds,x.2)
  | [.of (.own ds)]=>some (enumD ds,x.2)
  | _=>none
theorem walk_enum {a:Addr}{ds:List D}{vs:List V}(hl:∀ b,O b→LO (H b))(q:LsA K H O a vs∨(H a=some (.lst vs)∧fl O fp a))(l:IsL K H ds vs):Walk K (Ite K a) (enumD ds) H O fp:=by
  have sq:∀ H1 O1 fp1,Fr H O fp H1 O1 fp1→SqL K H1 a vs:=fun H1 O1 fp1 F=>by
    rcases q with q | ⟨q,f1,f2⟩
    · exact (LsA.fr F hl q).sq
    · exact SqL.of ((F.flt a f1 f2).1.trans q)
  refine ⟨fun H1 O1 fp1 F i s hs=>?_,fun H1 O1 fp1 F=>?_⟩
  · have q1:=sq H1 O1 fp1 F
    have l1:=l.tk (F.tk hl)
    unfold enumD at hs
    rw [List.getElem?_map] at hs
    cases e:(List.range ds.length)[i]? with
    | none=>rw [e] at hs; cases hs
    | some j=>
      rw [e] at hs
      obtain ⟨h1,h2⟩:=List.getElem?_eq_some_iff.mp e
      rw [List.getElem_range] at h2
      subst h2
      rw [List.length_range] at h1
      cases hs
      obtain ⟨v,g1,g2⟩:=l1.get (List.getElem?_eq_getElem h1)
      refine ⟨⟨vs,v,q1,g1⟩,fun y H' zq=>?_⟩
      obtain ⟨p,x,hp,e1,e2,e3⟩:=zq
      have:=e3 vs q1
      rw [g1] at this; cases this
      subst e1 e2
      have sm:=same_new hp (.tup [.int (i:Int),v])
      refine ⟨sm,⟨p,_,rfl,SqT.of upd_same,.cons (show _ from rfl) (.cons ?_ .nil)⟩,rfl⟩
      rw [List.getD_eq_getElem?_getD,List.getElem?_eq_getElem h1]
      exact g2.tk (Tk.same sm)
  · exact ⟨vs,sq H1 O1 fp1 F,by unfold enumD; rw [List.length_map,List.length_range,l.length]; exact Nat.le_refl _⟩
theorem qi_enum {f:M (List R)}(hg:Gl X "enumerate")(hm:X.mg "enumerate" = none)(ha:QA X [a] f)(hs:starEach [a] X.env=[(false,eval a X.env)]:=by rfl):QI X (.Tuple elts x1 pt) (.Call (.Name "enumerate" p) [a] [] pos) (mEnum f):=
  (pi_enum hg hm ha hs).imp fun σ H Rr zq=>by
    obtain ⟨B,ρ,O,fp,its,ρ',R,hf,k⟩:=zq
    obtain ⟨⟨rs,ρ1⟩,h1,hf⟩:=bind_some hf
    refine ⟨B,ρ,O,fp,rs,ρ1,R,h1,fun vs H1 O1 fp1 R1 k1 F1=>?_⟩
    dsimp only at hf
    split at hf
    · rename_i ds
      cases hf
      obtain ⟨v,us,rfl,⟨f,⟨⟨a,ws,rfl,q,l⟩,_⟩,_⟩,h2⟩:=k1
      have h2:us=[]:=h2
      subst h2
      exact ⟨a,ws,rfl,q.sq,k _ H1 O1 fp1 R1 F1 (walk_enum R1.lst (.inl q) l)⟩
    · rename_i ds
      cases hf
      obtain ⟨v,us,rfl,⟨f,⟨a,ws,rfl,q,l,rfl⟩,nd,hfl⟩,h2⟩:=k1
      have h2:us=[]:=h2
      subst h2
      exact ⟨a,ws,rfl,SqL.of q,k _ H1 O1 fp1 R1 F1 (walk_enum R1.lst (.inr ⟨q,(hfl a (by simp)).1⟩) l)⟩
    · cases hf
end
end Mi
namespace Mi
open PySem L2
open PySem.Spec
variable {K:PySem.W.Frag}{H H':Hp}{O O':Addr→Prop}{fp fp':Nat→List Addr}{B:Hp}{ρ ρ':En}{σ:L2.St}
noncomputable def fzS:Slot→Slot
  | .own ds=>.fz ds
  | .own2 dss=>.fz2 dss
  | .dct _=>.any
  | s=>s
theorem FzL.ofOw2:∀ {dss:List (List D)} {qs:List Addr},OwL K H dss qs→(∀ a∈qs,¬ O' a)→FzL K H O' dss (qs.map .ref)
  | [],_,h,_=>by
    have h':_=[]:=h
    subst h'; exact rfl
  | ds::dss,qs,h,w=>by
    obtain ⟨q,us,r,rfl,h1,h2,h3⟩:=h
    exact ⟨q,us,_,rfl,.inl ⟨h1,w q (by simp)⟩,h2,FzL.ofOw2 h3 fun a ha=>w a (by simp [ha])⟩
theorem SlotOk.less {s:Slot}{v:V}{f:List Addr}(h:SlotOk K H O s v f)(w:∀ a,O' a→O a):SlotOk K H O' s v f:=by
  cases s with
  | val d=>exact h
  | fz ds=>
    obtain ⟨⟨a,vs,e,h1,h2⟩,h3⟩:=h
    exact ⟨⟨a,vs,e,h1.weak w,h2⟩,h3⟩
  | fz2 dss=>
    obtain ⟨⟨a,vs,e,h1,h2⟩,h3⟩:=h
    exact ⟨⟨a,vs,e,h1.weak w,FzL.weak w h2⟩,h3⟩
  | own ds=>exact h
  | own2 dss=>exact h
  | any=>exact h
  | dct m=>exact h
theorem SlotOk.froze {s:Slot}{v:V}{f:List Addr}(h:SlotOk K H O s v f)(w:∀ a,O' a→O a)(n:∀ a∈f,¬ O' a):SlotOk K H O' (fzS s) v []:=by
  cases s with
  | val d=>exact ⟨h.1,rfl⟩
  | fz ds=>
    obtain ⟨⟨a,vs,e,h1,h2⟩,h3⟩:=h
    exact ⟨⟨a,vs,e,h1.weak w,h2⟩,rfl⟩
  | fz2 dss=>
    obtain ⟨⟨a,vs,e,h1,h2⟩,h3⟩:=h
    exact ⟨⟨a,vs,e,h1.weak w,FzL.weak w h2⟩,rfl⟩
  | own ds=>
    obtain ⟨p,vs,e,h1,h2,rfl⟩:=h
    exact ⟨⟨p,vs,e,.inl ⟨h1,n p (by simp)⟩,h2⟩,rfl⟩
  | own2 dss=>
    obtain ⟨p,qs,e,h1,h2,rfl⟩:=h
    exact ⟨⟨p,_,e,.inl ⟨h1,n p (by simp)⟩,FzL.ofOw2 h2 fun a ha=>n a (by simp [ha])⟩,rfl⟩
  | any=>exact rfl
  | dct m=>exact rfl
theorem Rel.freeze (r:Rel K B ρ σ H O fp){i:Nat}{s:Slot}(h:ρ[i]?=some (some s)):Rel K B (ρ.set i (some (fzS s))) σ H (fun a=>O a∧a∉fp i) (fun j=>if j=i then [] else fp j)∧
    Fr H O fp H (fun a=>O a∧a∉fp i) (fun j=>if j=i then [] else fp j):=by
  have hi:=(List.getElem?_eq_some_iff.mp h).1
  refine ⟨⟨by simpa using r.len,fun j t e=>?_,fun j e=>?_,fun j k a h1 h2=>?_,fun j=>?_,fun j a e=>?_,fun b e=>r.lst b e.1,fun b e=>r.new b e.1,r.keep⟩,fun b o e _=>e,fun b e=>.inl e.1,fun a e n=>⟨rfl,⟨e,n i⟩,fun j=>?_⟩⟩
  · by_cases q:j=i
    · subst q
      rw [List.getElem?_set_self hi] at e
      cases e
      obtain ⟨v,h1,h2⟩:=r.slot j s h
      refine ⟨v,h1,?_⟩
      rw [if_pos rfl]
      exact h2.froze (fun a z=>z.1) fun a ha z=>z.2 ha
    · rw [List.getElem?_set_ne (Ne.symm q)] at e
      obtain ⟨v,h1,h2⟩:=r.slot j t e
      refine ⟨v,h1,?_⟩
      rw [if_neg q]
      exact h2.less fun a z=>z.1
  · by_cases q:j=i
    · rw [if_pos q]
    · rw [if_neg q]
      exact r.non j fun t z=>e t (by rw [List.getElem?_set_ne (Ne.symm q)]; exact z)
  · by_cases q:j=i
    · rw [if_pos q] at h1; simp at h1
    · by_cases q':k=i
      · rw [if_pos q'] at h2; simp at h2
      · rw [if_neg q] at h1; rw [if_neg q'] at h2
        exact r.dis j k a h1 h2
  · by_cases q:j=i
    · rw [if_pos q]; exact List.nodup_nil
    · rw [if_neg q]; exact r.nd j
  · by_cases q:j=i
    · rw [if_pos q] at e; simp at e
    · rw [if_neg q] at e
      exact ⟨r.sub j a e,fun z=>q (r.dis j i a e z)⟩
  · show a∉if j=i then [] else fp j
    by_cases q:j=i
    · rw [if_pos q]; simp
    · rw [if_neg q]; exact n j
noncomputable def mFr (i:Nat):M R:=fun ρ=>(ρ[i]?).join.bind fun s=>some (.of (fzS s),ρ.set i (some (fzS s)))
section
variable {X:Cx}{e a b tg:Expr}{es:List Expr}{pos:Pos}
theorem q_fr {i:Nat}(h:PE X e (tVar i)):QE X e (mFr i):=h.imp fun σ H Q zq=>by
  obtain ⟨B,ρ,O,fp,r,ρ',R,hf,k⟩:=zq
  obtain ⟨s,q,hf⟩:=bind_some hf
  cases hf
  obtain ⟨v,hv,hs⟩:=R.slot i s (join_some q)
  obtain ⟨R1,F1⟩:=R.freeze (join_some q)
  refine ⟨v,hv,k v H _ _ R1 ⟨[],hs.froze (fun a z=>z.1) fun a ha z=>z.2 ha,List.nodup_nil,fun a z=>by simp at z⟩ F1⟩
theorem pi_seq {l:Expr}{tl:TE}(hl:PE X l tl):PI X tg l (fun σ H R=>tl σ H fun x H1=>∃ a,x=.ref a∧(((∃ xs,SqL X.K H1 a xs)∧R (Itl X.K a) H1)∨((∃ xs,SqT X.K H1 a xs)∧R (Itt X.K a) H1))):=by
  intro pins s σ H R I h
  refine thn (hl pins s σ H _ I h) fun v s1 zq=>?_
  obtain ⟨x,H1,I1,r1,q1⟩:=zq
  obtain ⟨a,e,q⟩:=q1
  subst e
  cases r1
  rcases q with ⟨⟨xs,hq⟩,q⟩ | ⟨⟨xs,hq⟩,q⟩
  · obtain ⟨its,rv,p,hz⟩:=I1.list hq
    refine wpAny_pyIter_list p.isList ?_
    refine ⟨s1.heap.objs.size,[s1.heap.objs.size],_,_,H1,rfl,I1.kept (t':=s1.toks) fun b o e=>Heap.get?_push_of_some _ e,turn_list a _,⟨_,Heap.get?_push_size _ rfl,rfl,rfl⟩,fun b hb=>?_,q⟩
    have e:b=s1.heap.objs.size:=by simpa using hb
    subst e
    exact I1.fpOk (Nat.le_refl _) (I1.hok.fresh (Nat.le_refl _))
  · obtain ⟨its,rv,p,hz⟩:=I1.tuple hq
    refine wpAny_pyIter_tuple (show s1.heap.IsTuple a its.toArray from p) ?_
    refine ⟨s1.heap.objs.size,[s1.heap.objs.size],_,_,H1,rfl,I1.kept (t':=s1.toks) fun b o e=>Heap.get?_push_of_some _ e,turn_tuple a _,⟨_,Heap.get?_push_size _ rfl,rfl,rfl⟩,fun b hb=>?_,q⟩
    have e:b=s1.heap.objs.size:=by simpa using hb
    subst e
    exact I1.fpOk (Nat.le_refl _) (I1.hok.fresh (Nat.le_refl _))
noncomputable def mItS (f:M R):M (List Slot):=fun ρ=>(f ρ).bind fun x=>match x.1 with
  | .of (.val (.tup ds))=>some (ds.map .val,x.2)
  | .of (.fz ds)=>some (ds.map .val,x.2)
  | .of (.own ds)=>some (ds.map .val,x.2)
  | .of (.fz2 dss)=>some (dss.map .fz,x.2)
  | _=>none
theorem walk_lst2 {a:Addr}{dss:List (List D)}{vs:List V}(hl:∀ b,O b→LO (H b))(q:LsA K H O a vs)(l:FzL K H O dss vs):Walk K (Itl K a) (dss.map Slot.fz) H O fp:=by
  have gt:∀ {H:Hp} {O:Addr→Prop} {dss:List (List D)} {vs:List V} {i:Nat} {ds:List D},FzL K H O dss vs→dss[i]?=some ds→∃ v,vs[i]?=some v∧SlotOk K H O (.fz ds) v []:=by
    intro H O dss
    induction dss with
    | nil=>intro vs i ds _ e; simp at e
    | cons d r ih=>
      intro vs i ds h e
      obtain ⟨a,us,rr,rfl,h1,h2,h3⟩:=h
      cases i with
      | zero=>simp at e; subst e; exact ⟨_,rfl,⟨a,us,rfl,h1,h2⟩,rfl⟩
      | succ i=>
        obtain ⟨u,q1,q2⟩:=ih (i:=i) h3 (by simpa using e)
        exact ⟨u,by simpa using q1,q2⟩
  refine ⟨fun H1 O1 fp1 F i s hs=>?_,fun H1 O1 fp1 F=>?_⟩
  · have q1:=(LsA.fr F hl q).sq
    have l1:=FzL.fr F hl l
    rw [List.getElem?_map] at hs
    cases e:dss[i]? with
    | none=>rw [e] at hs; cases hs
    | some d=>
      rw [e] at hs
      cases hs
      obtain ⟨v,g1,g2⟩:=gt l1 e
      refine ⟨⟨vs,v,q1,g1⟩,fun x H' zq=>?_⟩
      obtain ⟨e1,e2⟩:=zq
      subst e1
      have:=e2 vs q1
      rw [g1] at this; cases this
      exact ⟨Same.refl _,g2⟩
  · exact ⟨vs,(LsA.fr F hl q).sq,by rw [List.length_map,l.length]; exact Nat.le_refl _⟩
theorem qi_seq {f:M R}(h:QE X e f):QI X tg e (mItS f):=(pi_seq h).imp fun σ H Rr zq=>by
  obtain ⟨B,ρ,O,fp,its,ρ',R,hf,k⟩:=zq
  obtain ⟨⟨x,ρ1⟩,h1,hf⟩:=bind_some hf
  refine ⟨B,ρ,O,fp,x,ρ1,R,h1,fun v H1 O1 fp1 R1 k1 F1=>?_⟩
  dsimp only at hf
  split at hf
  · rename_i ds
    cases hf
    obtain ⟨f,⟨⟨a,vs,e,q,l⟩,_⟩,_⟩:=k1
    exact ⟨a,e,.inr ⟨⟨vs,q⟩,k _ H1 O1 fp1 R1 F1 (walk_tup R1.lst q l)⟩⟩
  · rename_i ds
    cases hf
    obtain ⟨f,⟨⟨a,vs,e,q,l⟩,_⟩,_⟩:=k1
    exact ⟨a,e,.inl ⟨⟨vs,q.sq⟩,k _ H1 O1 fp1 R1 F1 (walk_lst R1.lst (.inl q) l)⟩⟩
  · rename_i ds
    cases hf
    obtain ⟨f,⟨a,vs,e,q,l,rfl⟩,nd,hfl⟩:=k1
    exact ⟨a,e,.inl ⟨⟨vs,SqL.of q⟩,k _ H1 O1 fp1 R1 F1 (walk_lst R1.lst (.inr ⟨q,(hfl a (by simp)).1⟩) l)⟩⟩
  · rename_i dss
    cases hf
    obtain ⟨f,⟨⟨a,vs,e,q,l⟩,_⟩,_⟩:=k1
    exact ⟨a,e,.inl ⟨⟨vs,q.sq⟩,k _ H1 O1 fp1 R1 F1 (walk_lst2 R1.lst q l)⟩⟩
  · cases hf
structure Cal (P:Program)(w:World)(K:PySem.W.Frag)(mg:Str→Option Value)(base:Heap)(k:Nat)(x:Str)(n:Nat)(F:List Slot→Option Slot):Prop where
  ex:∃ f fd ps,FnOk P w K mg base CX0 k f fd ps (spF K n F)∧Binds K fd ps []∧PySem.W.keepIn K (.ref f)=true∧mg x=some (.ref f)
theorem q_callC {k n:Nat}{x:Str}{p:Pos}{F:List Slot→Option Slot}{m:M (List R)}(C:Cal X.prog X.w X.K X.mg X.base k x n F)(hr:Room k X.A)(hg:Gl X x)(ha:QA X (e::es) m)
    (hdb:(x == ("__debug__" : Str))=false:=by decide) (he:starEach (e::es) X.env=(false,eval e X.env)::starEach es X.env:=by rfl) (hpl:(backTo pos (starEach es X.env)).any (·.1)=false:=by rfl):
    QE X (.Call (.Name x p) (e::es) [] pos) (mOpF (ofLen n F) m):=by
  obtain ⟨f,fd,ps,G,hb,hk,hm⟩:=C.ex
  exact q_call G hr hg hm hk hb ha hdb he hpl
end
structure Names (mg:Str→Option Value)(K:PySem.W.Frag):Prop where
  len:mg "len" = none
  range:mg "range" = none
  tuple:mg "tuple" = none
  list:mg "list" = none
  int:mg "int" = none
  sum:mg "sum" = none
  enumerate:mg "enumerate" = none
  isinstance:mg "isinstance" = none
  bool:mg "bool" = none
  reversed:mg "reversed" = none
  min:mg "min" = none
  max:mg "max" = none
  str:mg "str" = none
  sorted:mg "sorted" = none
  set:mg "set" = none
  kInt:Kit K "int"
  kBool:Kit K "bool"
  kTup:Kit K "tuple"
  kLst:Kit K "list"
  kStr:Kit K "str"
noncomputable def compB (scope:Scope)(outer:List (Str×NameKind))(N:List Str)(ks:List Nat):Bool:=
  scope.kind == .function && decide ((scope.names.map (·.1)).Nodup) &&
    scope.names.all (fun p=>p.2 != .free || (outer.lookup p.1 == some .cell || outer.lookup p.1 == some .free)) &&
    (List.range N.length).all (fun i=>ks.contains i || match N[i]? with
      | none=>true
      | some x=>!(scope.names.lookup x == some .local || scope.names.lookup x == some .cell))
theorem compOk_of {scope:Scope}{outer:List (Str×NameKind)}{N:List Str}{ks:List Nat}(h:compB scope outer N ks=true):CompOk scope outer N ks:=by
  simp only [compB,Bool.and_eq_true,decide_eq_true_eq] at h
  obtain ⟨⟨⟨h1,h2⟩,h3⟩,h4⟩:=h
  refine ⟨by simpa using h1,h2,fun x hx=>?_,fun i x hi hx=>?_⟩
  · have:=List.all_eq_true.mp h3 _ hx
    simpa using this
  · have hlt:i < N.length:=(List.getElem?_eq_some_iff.mp hi).1
    have:=List.all_eq_true.mp h4 i (List.mem_range.mpr hlt)
    rw [hi] at this
    simp only [Bool.or_eq_true,Bool.not_eq_true',Bool.or_eq_false_iff] at this
    rcases this with z | ⟨z1,z2⟩
    · simpa using z
    · rcases hx with q | q
      · rw [q] at z1; simp at z1
      · rw [q] at z2; simp at z2
theorem kit_mk {K:PySem.W.Frag}{T:String}(h1:PySem.W.kitOne K (.type "NoneType") (.type T)=some (isT "NoneType" T))(h2:PySem.W.kitOne K (.type "bool") (.type T)=some (isT "bool" T))(h3:PySem.W.kitOne K (.type "int") (.type T)=some (isT "int" T))
    (h4:PySem.W.kitOne K (.type "str") (.type T)=some (isT "str" T)) (h5:PySem.W.kitOne K (.type "tuple") (.type T)=some (isT "tuple" T)) (h6:PySem.W.kitOne K (.type "list") (.type T)=some (isT "list" T)):Kit K T:=
  ⟨fun t ht=>by
    simp only [List.mem_cons,List.not_mem_nil,or_false] at ht
    rcases ht with rfl | rfl | rfl | rfl | rfl | rfl
    · exact h1
    · exact h2
    · exact h3
    · exact h4
    · exact h5
    · exact h6⟩
theorem kit_int (K:PySem.W.Frag):Kit K "int" := kit_mk (by kernel_rfl) (by kernel_rfl) (by kernel_rfl) (by kernel_rfl) (by kernel_rfl) (by kernel_rfl)
theorem kit_bool (K:PySem.W.Frag):Kit K "bool" := kit_mk (by kernel_rfl) (by kernel_rfl) (by kernel_rfl) (by kernel_rfl) (by kernel_rfl) (by kernel_rfl)
theorem kit_tup (K:PySem.W.Frag):Kit K "tuple" := kit_mk (by kernel_rfl) (by kernel_rfl) (by kernel_rfl) (by kernel_rfl) (by kernel_rfl) (by kernel_rfl)
theorem kit_lst (K:PySem.W.Frag):Kit K "list" := kit_mk (by kernel_rfl) (by kernel_rfl) (by kernel_rfl) (by kernel_rfl) (by kernel_rfl) (by kernel_rfl)
theorem kit_str (K:PySem.W.Frag):Kit K "str" := kit_mk (by kernel_rfl) (by kernel_rfl) (by kernel_rfl) (by kernel_rfl) (by kernel_rfl) (by kernel_rfl)
theorem Names.mk' {mg:Str→Option Value}{K:PySem.W.Frag}(h1:mg "len" = none)(h2:mg "range" = none)(h3:mg "tuple" = none)(h4:mg "list" = none)(h5:mg "int" = none)(h6:mg "sum" = none)(h7:mg "enumerate" = none)(h8:mg "isinstance" = none)(h9:mg "bool" = none)
    (h10:mg "reversed" = none) (h11:mg "min" = none) (h12:mg "max" = none) (h13:mg "str" = none) (h14:mg "sorted" = none) (h15:mg "set" = none):Names mg K:=⟨h1,h2,h3,h4,h5,h6,h7,h8,h9,h10,h11,h12,h13,h14,h15,kit_int K,kit_bool K,kit_tup K,kit_lst K,kit_str K⟩
theorem sp_law {K:PySem.W.Frag}{F:List Slot→Option Slot}(h:∀ ns:List Int,ns.length≤63→F [.fz (ns.map D.int)]=some (.val (.bl true)))(H:Hp)(a:Addr)(ns:List Int)(hl:ns.length≤63)(hS:SqL K H a (ns.map V.int)):
    spF K 1 F [.ref a] H (fun v _=>v=.bl true) (fun _ _ _=>False):=by
  refine ⟨[.fz (ns.map D.int)],.val (.bl true),rfl,⟨.ref a,[],rfl,⟨⟨a,ns.map V.int,rfl,?_,IsL.ofInts ns⟩,rfl⟩,rfl⟩,h ns hl,fun v H' _ q=>q⟩
  rcases hS with (q | ⟨o,q⟩) | q
  · exact .inl ⟨q,fun z=>z⟩
  · exact .inr (.inl ⟨o,q⟩)
  · exact .inr (.inr q)
end Mi
namespace Mi
open PySem L2
theorem forL_ex {tg:MG}{body:MS}(P:Nat→En→Prop):∀ {its:List Slot} {ρ:En} (n:Nat),P n ρ→(∀ i s ρ,its[i]?=some s→P (n+i) ρ→∃ ρ1 ρ2,tg s ρ=some ρ1∧body ρ1=some (.nx ρ2)∧P (n+i+1) ρ2)→
    ∃ ρ',forL tg body its ρ=some (.nx ρ')∧P (n+its.length) ρ':=by
  intro its
  induction its with
  | nil=>intro ρ n h _; exact ⟨ρ,rfl,h⟩
  | cons s r ih=>
    intro ρ n h step
    obtain ⟨ρ1,ρ2,h1,h2,h3⟩:=step 0 s ρ rfl h
    obtain ⟨ρ',e,q⟩:=ih (ρ:=ρ2) (n+1) h3 fun i t ρ hi hp=>by
      have hp':P (n+(i+1)) ρ:=by rw [show n+(i+1)=n+1+i by lia]; exact hp
      obtain ⟨ρ3,ρ4,g1,g2,g3⟩:=step (i+1) t ρ (by simpa using hi) hp'
      exact ⟨ρ3,ρ4,g1,g2,by rw [show n+1+i+1=n+(i+1)+1 by lia]; exact g3⟩
    refine ⟨ρ',?_,by rw [List.length_cons,show n+(r.length+1)=n+1+r.length by lia]; exact q⟩
    show ((tg s ρ).bind fun ρ1=>(body ρ1).bind _)=_
    rw [h1]
    show ((body ρ1).bind _)=_
    rw [h2]
    exact e
theorem while_ex {c:M Bool}{body:MS}(P:Nat→En→Prop):∀ (n:Nat) {ρ:En} (k:Nat),P k ρ→k < n→(∀ k ρ,P k ρ→(∃ ρ1,c ρ=some (decide (0 < k),ρ1)∧(k=0→P 0 ρ1)∧(0 < k→∃ ρ2,body ρ1=some (.nx ρ2)∧P (k - 1) ρ2)))→
    ∃ ρ',sWhile c body n ρ=some (.nx ρ')∧P 0 ρ':=by
  intro n
  induction n with
  | zero=>intro ρ k _ h; lia
  | succ n ih=>
    intro ρ k hp hk step
    obtain ⟨ρ1,h1,h2,h3⟩:=step k ρ hp
    unfold sWhile
    rw [h1]
    by_cases hz:0 < k
    · obtain ⟨ρ2,g1,g2⟩:=h3 hz
      obtain ⟨ρ',e,q⟩:=ih (ρ:=ρ2) (k - 1) g2 (by lia) step
      refine ⟨ρ',?_,q⟩
      simp only [Option.bind_some,decide_eq_true hz,if_true,g1]
      exact e
    · refine ⟨ρ1,?_,h2 (by lia)⟩
      simp [hz]
theorem compL_setN {k:Nat}{elt:M R}(val:Slot→D):∀ {its:List Slot} {ρ:En},k < ρ.length→(∀ s∈its,elt (ρ.set k (some s))=some (.of (.val (val s)),ρ.set k (some s)))→
    ∃ ρe,compL (setN k) mYes elt its ρ=some (its.map val,ρe)∧(ρe=ρ∨∃ s∈its,ρe=ρ.set k (some s)):=by
  intro its
  induction its with
  | nil=>intro ρ _ _; exact ⟨ρ,rfl,.inl rfl⟩
  | cons s r ih=>
    intro ρ hk h
    have hs:=h s (by simp)
    obtain ⟨ρe,e,q⟩:=ih (ρ:=ρ.set k (some s)) (by simpa using hk) fun t ht=>by
      rw [List.set_set]; exact h t (by simp [ht])
    refine ⟨ρe,?_,?_⟩
    · have e0:setN k s ρ=some (ρ.set k (some s)):=if_pos hk
      simp only [compL,e0,mYes,Option.bind_some,if_true,hs]
      rw [e]
      rfl
    · rcases q with q | ⟨t,ht,q⟩
      · exact .inr ⟨s,by simp,q⟩
      · exact .inr ⟨t,by simp [ht],by rw [q,List.set_set]⟩
noncomputable def notOwn:Slot→Bool
  | .own _=>false
  | .own2 _=>false
  | .dct _=>false
  | _=>true
theorem mComp_setN {k:Nat}{it:M (List Slot)}{elt:M R}{ρ0 ρ2:En}{its:List Slot}(val:Slot→D)(h1:it ρ0=some (its,ρ2))(hk:k < ρ2.length)(hp:plainAt ρ2 k=true)(hz:its.length < big)(hn:∀ s∈its,notOwn s=true)
    (h:∀ s∈its,elt (ρ2.set k (some s))=some (.of (.val (val s)),ρ2.set k (some s))):mComp [k] (setN k) it mYes elt ρ0=some (.of (.own (its.map val)),ρ2):=by
  obtain ⟨ρe,e,q⟩:=compL_setN (k:=k) (elt:=elt) val (its:=its) (ρ:=ρ2.set k none) (by simpa using hk) fun s hs=>by rw [List.set_set]; exact h s hs
  have hre:ρe.set k (ρ2[k]?).join=ρ2:=by
    have e1:(ρ2[k]?).join=ρ2[k]:=by rw [List.getElem?_eq_getElem hk]; rfl
    rw [e1]
    rcases q with q | ⟨s,_,q⟩
    · rw [q,List.set_set,List.set_getElem_self]
    · rw [q,List.set_set,List.set_set,List.set_getElem_self]
  have hno:noOwn ρe k=true:=by
    unfold noOwn
    rcases q with q | ⟨s,hs,q⟩
    · rw [q,List.getElem?_set_self (by simpa using hk)]
      rfl
    · rw [q,List.getElem?_set_self (by simpa using hk)]
      have:=hn s hs
      cases s<;>first | rfl | cases this
  unfold mComp
  rw [h1]
  show (if its.length < big∧[k].all (plainAt ρ2)=true then (compL (setN k) mYes elt its (maskE [k] ρ2)).bind _ else none)=_
  rw [if_pos ⟨hz,by simp [hp]⟩]
  show ((compL (setN k) mYes elt its (ρ2.set k none)).bind _)=_
  rw [e]
  show (if [k].all (noOwn ρe)=true then some (R.of (.own (its.map val)),unmask [k] ρ2 ρe) else none)=_
  rw [if_pos (by simp [hno])]
  show some (R.of (.own (its.map val)),ρe.set k (ρ2[k]?).join)=_
  rw [hre]
theorem rangeD_mem {lo:Int}{n:Nat}{s:Slot}(h:s∈rangeD lo n):∃ i:Nat,i < n∧s=.val (.int (lo+i)):=by
  unfold rangeD at h
  obtain ⟨i,hi,e⟩:=List.mem_map.mp h
  exact ⟨i,List.mem_range.mp hi,e.symm⟩
theorem rangeD_len {lo:Int}{n:Nat}:(rangeD lo n).length=n:=by unfold rangeD; simp
theorem rangeD_get {lo:Int}{n i:Nat}{s:Slot}(h:(rangeD lo n)[i]?=some s):i < n∧s=.val (.int (lo+i)):=by
  unfold rangeD at h
  rw [List.getElem?_map] at h
  cases q:(List.range n)[i]? with
  | none=>rw [q] at h; cases h
  | some j=>
    rw [q] at h
    obtain ⟨h1,h2⟩:=List.getElem?_eq_some_iff.mp q
    rw [List.getElem_range] at h2
    subst h2
    rw [List.length_range] at h1
    cases h
    exact ⟨h1,rfl⟩
noncomputable def cell (ns:List Int)(k:Nat):Int:=ns.getD k 0
theorem atI_ints {ns:List Int}{k:Nat}(h:k < ns.length):atI (ns.map D.int) (k:Int)=some (.int (ns.getD k 0)):=by
  refine atI_nat ?_
  rw [List.getElem?_map,List.getElem?_eq_getElem h,List.getD_eq_getElem?_getD,List.getElem?_eq_getElem h]
  rfl
end Mi
namespace Mi
open PySem L2
open PySem.Spec
variable {K:PySem.W.Frag}{H H':Hp}{O O':Addr→Prop}{fp fp':Nat→List Addr}{B:Hp}{ρ ρ':En}{σ:L2.St}
noncomputable def Itr3 (lo st:Int)(n:Nat):It:=⟨fun i _=>i < n,fun i H x H'=>H'=H∧x=.int (lo+i*st),fun i _=>n≤i⟩
theorem turn_range3 {P:Program}{w:World}{K:PySem.W.Frag}{tg:Expr}(it:Addr)(lo st:Int)(n:Nat):Turn P w K tg (Itr3 lo st n) [it] it (fun i h=>IsRangeIter h it (lo+(i:Nat)*st) ((n:Int) - (i:Nat)) st) where
  mem:=by simp
  obj:=fun i h st b hb=>by
    have e:b=it:=by simpa using hb
    subst e
    exact ⟨_,st,fun v z=>by
      have z':Data.fields _=Data.cell v:=z
      cases z'⟩
  keep:=fun i h h' st k=>k it (by simp) _ st
  item:=by
    intro X hP hw hK hc i pins s σ H E I hf st' hg
    subst hP hw hK
    obtain ⟨f0,f1,f2,f3,f4,f5⟩:=hf it (by simp)
    have W:=Walks.range (prog:=X.prog) (w:=X.w) (I.ok.hd hc) it lo st n
    refine W.item i s _ _ hg st' fun v h' tk hv st' kk=>?_
    obtain ⟨t,rfl⟩:=hv
    have I1:Inv X pins σ H { s with heap:=h',toks:=tk }:=I.turned (fun b o hb e=>kk b o (by simpa using hb) e) f0 f1 f3 f4 f5
    exact ⟨_,rfl,go_of (s:={ s with heap:=h',toks:=tk }) (n := "range_iterator") st' rfl rfl (by decide) ⟨.int (lo+i*st),H,I1,⟨t,rfl⟩,⟨rfl,rfl⟩,st',fun b hb=>(hf b hb).1⟩⟩
  done:=by
    intro X hP hw hK hc i pins s σ H E I hf st hg
    subst hP hw hK
    obtain ⟨f0,f1,f2,f3,f4,f5⟩:=hf it (by simp)
    exact wpAny_pyNext_range_end (I.ok.hd hc) st (by have:n≤i:=hg; lia) fun h' eb=>⟨rfl,I.turned (t':=s.toks) (fun b o hb e=>eb b o hb e) f0 f1 f3 f4 f5⟩
  self:=fun _ _ _ _ _ st h=>wpAny_pyIter_rangeiter st h
noncomputable def many3 (lo hi c:Int):Nat:=((hi - lo+c - 1) / c).toNat
theorem size_many {lo hi c:Int}(hc:0 < c):Builtin.Range.rangeSize lo hi c=(many3 lo hi c:Int):=by
  unfold Builtin.Range.rangeSize many3
  rw [if_pos hc]
  have e:hi - lo+c - 1=(hi - lo - 1)+1*c:=by lia
  rw [e,Int.add_mul_ediv_right _ _ (by lia)]
  split
  · rename_i h
    have:0≤(hi - lo - 1) / c:=Int.ediv_nonneg (by lia) (by lia)
    lia
  · rename_i h
    have:(hi - lo - 1) / c < 0:=Int.ediv_neg_of_neg_of_pos (by lia) hc
    lia
theorem small_pos {a b c:Int}(ha:-(2 ^ 60)≤a)(ha':a < 2 ^ 60)(hb:-(2 ^ 60)≤b)(hb':b < 2 ^ 60)(hc:0 < c)(hc':c < 2 ^ 30):Builtin.Range.small a b c=true:=by
  have h1:many3 a b c≤(b - a+c - 1).toNat:=by
    unfold many3
    by_cases h:0≤b - a+c - 1
    · have:=Int.ediv_le_self c h
      lia
    · have:(b - a+c - 1) / c < 0:=Int.ediv_neg_of_neg_of_pos (by lia) hc
      lia
  unfold Builtin.Range.small
  rw [size_many hc]
  simp only [Builtin.Range.rangeFitsLong,Bool.and_eq_true,Bool.or_eq_true,decide_eq_true_eq,beq_iff_eq,hc,gt_iff_lt,if_true]
  refine ⟨⟨⟨⟨⟨?_,?_⟩,⟨?_,?_⟩⟩,⟨?_,?_⟩⟩,⟨?_,?_⟩⟩,?_⟩<;>lia
noncomputable def rangeD3 (lo c:Int)(n:Nat):List Slot:=(List.range n).map fun (i:Nat)=>.val (.int (lo+i*c))
theorem walk_range3 {lo c:Int}{n:Nat}:Walk K (Itr3 lo c n) (rangeD3 lo c n) H O fp:=by
  refine ⟨fun H O fp _ i s hs=>?_,fun H O fp _=>?_⟩
  · unfold rangeD3 at hs
    rw [List.getElem?_map] at hs
    cases q:(List.range n)[i]? with
    | none=>rw [q] at hs; cases hs
    | some j=>
      rw [q] at hs
      obtain ⟨h1,h2⟩:=List.getElem?_eq_some_iff.mp q
      rw [List.getElem_range] at h2
      subst h2
      rw [List.length_range] at h1
      cases hs
      refine ⟨h1,fun x H' zq=>?_⟩
      obtain ⟨e1,e2⟩:=zq
      subst e1 e2
      exact ⟨Same.refl _,rfl,rfl⟩
  · show n≤(rangeD3 lo c n).length
    unfold rangeD3
    rw [List.length_map,List.length_range]
    exact Nat.le_refl _
noncomputable def mRng3 (f:M (List R)):M (List Slot):=fun ρ=>(f ρ).bind fun x=>(drs x.2 x.1).bind fun ss=>match ss with
  | [.val (.int i),.val (.int j),.val (.int c)]=>if -(2 ^ 60)≤i∧i < 2 ^ 60∧-(2 ^ 60)≤j∧j < 2 ^ 60∧0 < c∧c < 2 ^ 30 then some (rangeD3 i c (many3 i j c),x.2) else none
  | _=>none
section
variable {X:Cx}{e a b c tg:Expr}{es:List Expr}{pos p p2:Pos}
theorem pi_range3 {ta:TA}(hg:Gl X "range")(hm:X.mg "range" = none)(ha:PA X [a,b,c] ta)(hs:starEach [a,b,c] X.env=[(false,eval a X.env),(false,eval b X.env),(false,eval c X.env)]:=by rfl)(hs2:starEach [b,c] X.env=[(false,eval b X.env),(false,eval c X.env)]:=by rfl):
    PI X tg (.Call (.Name "range" p) [a,b,c] [] pos) (fun σ H R=>ta σ H fun vs H1=>∃ i j c:Int,vs=[.int i,.int j,.int c]∧(-(2 ^ 60)≤i∧i < 2 ^ 60∧-(2 ^ 60)≤j∧j < 2 ^ 60∧0 < c∧c < 2 ^ 30)∧R (Itr3 i c (many3 i j c)) H1):=by
  intro pins s σ H R I h
  refine PyProof.Rows.Call_ (ld_blt I hg hm PyProof.Rows.boot_range (PyProof.Rows.callWith_type1 (thn (ha pos pins s σ H _ I h) fun us s1 ⟨vs,H1,I1,r1,q1⟩=>?_) (by rw [hs,hs2]) (by rw [hs2]; rfl)))
  obtain ⟨lo,hi,c,e,⟨q1,q2,q3,q4,q5,q6⟩,q⟩:=q1
  subst e
  cases r1 with
  | cons r rr=>
    cases rr with
    | cons r' rr=>
      cases rr with
      | cons r'' rr=>
        cases rr
        obtain ⟨t,rfl⟩:=r
        obtain ⟨u,rfl⟩:=r'
        obtain ⟨v,rfl⟩:=r''
        refine call_range_3 (by lia) ?_ (.inl (PyProof.noPylong_small (by lia)))
        refine wpAny_pyIter_range (IsRange.new ..) (small_pos q1 q2 q3 q4 q5 q6) ?_
        have I2:Inv X pins σ H1 { s1 with heap:=s1.heap.push { cls:=.type "range",data:=.fields #[.int lo t,.int hi u,.int c v] },toks:=s1.toks }:=I1.kept fun b o e=>Heap.get?_push_of_some _ e
        refine ⟨(s1.heap.push { cls:=.type "range",data:=.fields #[.int lo t,.int hi u,.int c v] }).objs.size,[(s1.heap.push { cls:=.type "range",data:=.fields #[.int lo t,.int hi u,.int c v] }).objs.size],_,_,H1,rfl,
          I2.kept (t':=s1.toks) fun b o e=>Heap.get?_push_of_some _ e,turn_range3 _ lo c (many3 lo hi c),?_,fun b hb=>?_,q⟩
        · have e1:lo+((0:Nat):Int)*c=lo:=by simp
          have e2:((many3 lo hi c:Nat):Int) - ((0:Nat):Int)=Builtin.Range.rangeSize lo hi c:=by rw [size_many q5]; simp
          show IsRangeIter _ _ (lo+((0:Nat):Int)*c) (((many3 lo hi c:Nat):Int) - ((0:Nat):Int)) c
          rw [e1,e2]
          exact Heap.get?_push_size _ rfl
        · have e:b=(s1.heap.push { cls:=.type "range",data:=.fields #[.int lo t,.int hi u,.int c v] }).objs.size:=by simpa using hb
          subst e
          exact I2.fpOk (Nat.le_refl _) (I2.hok.fresh (Nat.le_refl _))
theorem qi_range3 {f:M (List R)}(hg:Gl X "range")(hm:X.mg "range" = none)(ha:QA X [a,b,c] f)(hs:starEach [a,b,c] X.env=[(false,eval a X.env),(false,eval b X.env),(false,eval c X.env)]:=by rfl)(hs2:starEach [b,c] X.env=[(false,eval b X.env),(false,eval c X.env)]:=by rfl):
    QI X tg (.Call (.Name "range" p) [a,b,c] [] pos) (mRng3 f):=
  (pi_range3 hg hm ha hs hs2).imp fun σ H Rr zq=>by
    obtain ⟨B,ρ,O,fp,its,ρ',R,hf,k⟩:=zq
    obtain ⟨⟨rs,ρ1⟩,h1,hf⟩:=bind_some hf
    obtain ⟨ss,h2,hf⟩:=bind_some hf
    split at hf
    · rename_i i j c
      split at hf
      · rename_i hj
        cases hf
        refine ⟨B,ρ,O,fp,rs,ρ1,R,h1,fun vs H1 O1 fp1 R1 k1 F1=>?_⟩
        obtain ⟨v1,u1,rfl,hv1,v2,u2,rfl,hv2,v3,u3,rfl,hv3,hu⟩:=ResL.rd R1 k1 h2
        have hu:u3=[]:=hu
        have hv1:v1=.int i:=hv1.1
        have hv2:v2=.int j:=hv2.1
        have hv3:v3=.int c:=hv3.1
        subst hu hv1 hv2 hv3
        exact ⟨i,j,c,rfl,hj,k _ H1 O1 fp1 R1 F1 walk_range3⟩
      · cases hf
    · cases hf
noncomputable def cutD (ds:List D)(lo hi:Option Int):List D:=(ds.drop (HT.sIx ds.length 0 lo)).take (HT.sIx ds.length ds.length hi - HT.sIx ds.length 0 lo)
theorem cut_is {ds:List D}{vs:List V}{lo hi:Option Int}(l:IsL K H ds vs):IsL K H (cutD ds lo hi) (cutV vs lo hi):=by
  unfold cutD cutV
  rw [l.length]
  exact (l.drop _).take _
theorem getItem_tuple_all {prog:Program}{w:World}{A:Around}{E:Value→Shared→Prop}{s:Shared}{t sl:Addr}{items:Array Value}{vl vu:Value}{lo hi:Option Int}{Q:Value→Shared→Prop}(ht:PyProof.Rows.IsTup s.heap t items)(hs:s.heap.IsSliceOf sl vl vu .none)(pl:IsPart vl lo)(pu:IsPart vu hi)
    (hw:HT.sIx items.size 0 lo=0∧HT.sIx items.size items.size hi=items.size) (h:Q (.ref t) s):wpAny (model prog w) A (getItem (.ref t) (.ref sl)) Q E s:=by
  obtain ⟨os,hos,hcs,hds⟩:=id hs
  have hTs:s.TypeIs (.ref sl) "slice" := ⟨os,hos,hcs⟩
  unfold getItem
  try with_reducible refine wpAny_holding ?_
  first | refine wpAny_bind (wpAny_pure ?_) | skip
  refine wpAny_bind (wpAny_sequenceKey ht.typeIs (by decide) ?_)
  refine wpAny_bind (wpAny_callSpecial?_slot (name:=Str.ofString "__getitem__") ht.typeIs PyProof.Rows.slot_tuple_getitem
    (wpAny_call_entry PyProof.Rows.slot_tuple_getitem ht.typeIs PyProof.Rows.entry_tuple_getitem ?_ (PyProof.Rows.args_tuple_getitem _ _)))
  show wpAny _ _ (Builtin.Tuple.tupleItemsOf (.ref t)>>=_) _ _ s
  refine wpAny_bind (PyProof.Rows.tupleItemsOf_ ht ?_)
  refine wpAny_bind (wpAny_typeOf hTs ?_)
  rw [if_pos (by decide)]
  refine wpAny_bind (HT.sliceApplied_gen hs pl pu ?_)
  show wpAny _ _ (if (((HT.sIx items.size 0 lo:Nat):Int) == 0 && (1:Int) == 1 && (HT.sIx items.size items.size hi - HT.sIx items.size 0 lo) == items.size)=true then _ else _) _ _ s
  rw [hw.1,hw.2,if_pos (by simp)]
  refine wpAny_bind (m:=Builtin.Tuple.tupleIsExact (.ref t)) ?_
  unfold Builtin.Tuple.tupleIsExact
  refine wpAny_bind (wpAny_typeOf ht.typeIs (wpAny_pure ?_))
  show wpAny _ _ (if (Value.type "tuple" == Value.type "tuple")=true then _ else _) _ _ s
  rw [if_pos (by decide)]
  exact wpAny_bind (wpAny_rule (wpAny_pure ⟨_,rfl,wpAny_pure h⟩))
inductive rSlT2 (K:PySem.W.Frag)(x:V)(lo:Option Int)(hi:Option Int)(H:Hp)(Q:VK):Prop
  | mk:∀ a xs,(x=.ref a)→(SqT K H a xs)→(((HT.sIx xs.length 0 lo=0∧HT.sIx xs.length xs.length hi=xs.length)→Q (.ref a) H))→((¬ (HT.sIx xs.length 0 lo=0∧HT.sIx xs.length xs.length hi=xs.length)→∀ p,H p=none→Q (.ref p) (upd H p (.tup (cutV xs lo hi)))))→rSlT2 K x lo hi H Q
theorem sl_tup2:SlR X (rSlT2 X.K):=by
  intro pins s σ H x v vl vu lo hi sl Q I rx hs pl pu h
  obtain ⟨a,xs,rfl,hx,h1,h2⟩:=h
  by_cases hw:HT.sIx xs.length 0 lo=0∧HT.sIx xs.length xs.length hi=xs.length
  · cases rx
    obtain ⟨its,r,ht,hz⟩:=I.tuple hx
    have hlen:its.toArray.size=xs.length:=by rw [List.size_toArray]; exact r.length.symm
    exact ⟨"tuple",_,PyProof.Rows.slot_tuple_getitem.lookup,ht.typeIs,getItem_tuple_all ht hs pl pu (by rw [hlen]; exact hw) ⟨.ref a,H,I,rfl,h1 hw⟩⟩
  · exact sl_tup pins s σ H (.ref a) v vl vu lo hi sl Q I rx hs pl pu ⟨a,xs,rfl,hx,hw,h2 hw⟩
theorem cut_whole {ds:List D}{lo hi:Option Int}(h:HT.sIx ds.length 0 lo=0∧HT.sIx ds.length ds.length hi=ds.length):cutD ds lo hi=ds:=by
  unfold cutD
  rw [h.1,h.2]
  simp
noncomputable def mNoP:M (Option Int):=fun ρ=>some (none,ρ)
noncomputable def mPt (f:M R):M (Option Int):=fun ρ=>(f ρ).bind fun x=>match x.1 with
  | .of (.val (.int i))=>some (some i,x.2)
  | _=>none
noncomputable def gSl (lo hi:Option Int):Slot→Option Slot
  | .val (.tup ds)=>some (.val (.tup (cutD ds lo hi)))
  | .fz ds=>some (.own (cutD ds lo hi))
  | _=>none
noncomputable def mSl (f:M R)(l u:M (Option Int)):M R:=fun ρ=>(f ρ).bind fun x=>(l x.2).bind fun y=>(u y.2).bind fun z=>(dr z.2 x.1).bind fun s=>(gSl y.1 z.1 (rdS s)).bind fun t=>some (.of t,z.2)
inductive tQO (K:PySem.W.Frag)(l:M (Option Int))(σ:L2.St)(H:Hp)(Q:Option Int→Hp→Prop):Prop
  | mk:∀ B ρ O fp o ρ',(Rel K B ρ σ H O fp)→(l ρ=some (o,ρ'))→(∀ H' O' fp',Rel K B ρ' σ H' O' fp'→Fr H O fp H' O' fp'→Q o H')→tQO K l σ H Q
noncomputable abbrev QO (X:Cx)(e:Option Expr)(l:M (Option Int)):Prop:=PO X e (tQO X.K l)
theorem PO.imp {e:Option Expr}{t t':TO}(h:PO X e t)(w:∀ σ H Q,t' σ H Q→t σ H Q):PO X e t':=fun pins s σ H Q I q=>h pins s σ H Q I (w σ H Q q)
theorem qo_none:QO X none mNoP:=PO.imp po_none fun σ H Q zq=>by
  obtain ⟨B,ρ,O,fp,o,ρ',R,hf,k⟩:=zq
  cases hf
  exact k H O fp R Fr.refl
theorem qo_some {f:M R}(h:QE X e f):QO X (some e) (mPt f):=PO.imp (po_some h) fun σ H Q zq=>by
  obtain ⟨B,ρ,O,fp,o,ρ',R,hf,k⟩:=zq
  obtain ⟨⟨x,ρ1⟩,h1,hf⟩:=bind_some hf
  dsimp only at hf
  split at hf
  · rename_i i
    cases hf
    refine ⟨B,ρ,O,fp,_,_,R,h1,fun v H' O' fp' R' k' F'=>?_⟩
    obtain ⟨f,⟨hs,_⟩,_⟩:=k'
    exact ⟨i,hs,k H' O' fp' R' F'⟩
  · cases hf
theorem q_slice {lo hi:Option Expr}{f:M R}{l u:M (Option Int)}(ha:QE X e f)(hl:QO X lo l)(hu:QO X hi u):QE X (.Subscript e (.Slice lo hi none p2) pos) (mSl f l u):=
  (pe_slice (sl_tup2.or sl_list) ha hl hu).imp fun σ H Q zq=>by
    obtain ⟨B,ρ,O,fp,r,ρ',R,hf,k⟩:=zq
    obtain ⟨⟨x,ρ1⟩,h1,hf⟩:=bind_some hf
    obtain ⟨⟨vl,ρ2⟩,h2,hf⟩:=bind_some hf
    obtain ⟨⟨vh,ρ3⟩,h3,hf⟩:=bind_some hf
    · obtain ⟨s,g3,hf⟩:=bind_some hf
      obtain ⟨t,g4,hf⟩:=bind_some hf
      cases hf
      refine ⟨B,ρ,O,fp,x,ρ1,R,h1,fun v H1 O1 fp1 R1 k1 F1=>?_⟩
      refine ⟨B,ρ1,O1,fp1,vl,ρ2,R1,h2,fun H2 O2 fp2 R2 F2=>?_⟩
      refine ⟨B,ρ2,O2,fp2,vh,ρ3,R2,h3,fun H3 O3 fp3 R3 F3=>?_⟩
      have F13:=F2.trans F3
      obtain ⟨ff,hs⟩:=R3.dr (k1.fr F13 R1.lst) g3
      have hr:=hs.rd
      have F:=F1.trans F13
      generalize rdS s=s' at g4 hr
      unfold gSl at g4
      split at g4
      · rename_i ds
        cases g4
        have gd:=R3.good (s:=.val (.tup (cutD ds vl vh))) (Q:=Q) (fun v' H' O' R' k' F'=>k v' H' O' fp3 R' (k'.back F.fl) (F.trans F')) trivial
        obtain ⟨⟨a,ws,rfl,q,l⟩,_⟩:=hr
        refine .inl ⟨a,ws,rfl,q,fun hw=>?_,fun hw p hp=>?_⟩
        · rw [l.length] at hw
          rw [cut_whole hw] at gd
          exact gd _ _ (Same.refl _) ⟨a,ws,rfl,q,l⟩
        · have e:=same_new hp (.tup (cutV ws vl vh))
          exact gd _ _ e ⟨p,_,rfl,SqT.of upd_same,(cut_is l).tk (Tk.same e)⟩
      · rename_i ds
        cases g4
        have gd:=R3.good (s:=.own (cutD ds vl vh)) (Q:=Q) (fun v' H' O' R' k' F'=>k v' H' O' fp3 R' (k'.back F.fl) (F.trans F')) trivial
        obtain ⟨⟨a,ws,rfl,q,l⟩,_⟩:=hr
        refine .inr ⟨a,ws,rfl,q.sq,fun p hp=>?_⟩
        have e:=same_new hp (.lst (cutV ws vl vh))
        exact gd p _ _ e hp upd_same ((cut_is l).tk (Tk.same e))
      · cases g4
noncomputable def gCat:List Slot→Option Slot:=fun ss=>match ss with
  | [.val (.tup xs),.val (.tup ys)]=>if xs≠[]∧xs.length+ys.length < big then some (.val (.tup (xs++ys))) else none
  | _=>none
theorem sr_cat:SR K gCat (r2 (rCatT K)):=fun H ss vs s Q hr h k=>by
  unfold gCat at h
  split at h
  · rename_i xs ys
    split at h
    · rename_i hz
      cases h
      obtain ⟨u,v,rfl,⟨a,ws,rfl,q,l⟩,⟨b,zs,rfl,q',l'⟩⟩:=rd2 hr
      refine ⟨_,_,rfl,a,b,ws,zs,rfl,rfl,q,q',fun e=>?_,?_,fun e=>?_,fun e p hp=>?_⟩
      · have:=l.length
        rw [e] at this
        exact hz.1 (List.length_eq_zero_iff.mp this.symm)
      · rw [l.length,l'.length]
        exact Nat.le_of_lt (big_line hz.2)
      · have:=l'.length
        rw [e] at this
        have e':ys=[]:=List.length_eq_zero_iff.mp this.symm
        subst e'
        rw [List.append_nil] at k
        exact k _ _ (Same.refl _) ⟨a,ws,rfl,q,l⟩
      · have e:=same_new hp (.tup (ws++zs))
        exact k _ _ e ⟨p,_,rfl,SqT.of upd_same,(l.append l').tk (Tk.same e)⟩
    · cases h
  · cases h
variable {f g:M R}
theorem q_cat (ha:QE X a f)(hb:QE X b g):QE X (.BinOp a .Add b pos) (mOpF gCat (mCons f (mCons g mNil))):=q_bin op_catT sr_cat ha hb
theorem ext_meets {T:String}(hT:T = "list" ∨ T = "tuple")(l:Addr)(items:Array Value)(n:Nat)(b:Addr)(items2:Array Value)(n2:Nat)(dd:Option Addr)(sl:Array (Option Value))(hc0:¬(!items.isEmpty && Builtin.List.listTooLong (items.size+items2.size))=true)(hc1:items.size≤sizeLine)(hs2:items.size+items2.size≤sizeLine+1):
    Meets (Builtin.«list.extend» ⟨[.ref l,.ref b],[]⟩) (fun _ R s=>s.heap.get? l=some { cls:=.type "list",dict:=none,data:=.seq items n,slots:=#[] }∧s.heap.get? b=some { cls:=.type T,dict:=dd,data:=.seq items2 n2,slots:=sl }∧R (.ok (.ret Value.none)) { s with heap:=s.heap.update l (Obj.mapSeq fun x=>x++items2),toks:=s.toks }):=
  .of_wp fun prog w A R s h=>by
    obtain ⟨hp,g,d,tk,os⟩:=s; obtain ⟨hl,hb,h⟩:=h; have f1:=AutoSeq1.idx_int; have f2:=AutoSeq1.sub_tuple_tuple; have f3:=AutoSeq1.sub_list_list; have f4:=AutoSeq1.sub_tuple_list; have f5:=AutoSeq1.sub_list_tuple
    have hz':(items++items2).size≤sizeLine+1:=by rw [Array.size_append]; exact hs2
    rcases hT with rfl | rfl
    · wp_walk using (wpAny_updateSeq hl rfl (hz:=hc1) (_hz':=hz')),AutoSeq1.wpAny_loadPart' hl,AutoSeq1.wpAny_loadPart' hb; exact ⟨_,rfl,h⟩
    · wp_walk using (wpAny_updateSeq hl rfl (hz:=hc1) (_hz':=hz')),AutoSeq1.wpAny_loadPart' hl,AutoSeq1.wpAny_loadPart' hb; exact ⟨_,rfl,h⟩
inductive rExtQ (K:PySem.W.Frag)(x:V)(vs:List V)(H:Hp)(Q:VK):Prop
  | mk:∀ l b xs zs,(x=.ref l)→(vs=[.ref b])→(H l=some (.lst xs))→((SqL K H b zs∨SqT K H b zs))→(xs.length+zs.length≤sizeLine)→(Q .non (upd H l (.lst (xs++zs))))→rExtQ K x vs H Q
theorem mt_extQ:MtM X "list.extend" (rExtQ X.K):=by
  intro pins s σ H x vs v us Q I rx rv h
  obtain ⟨l,b,xs,zs,rfl,rfl,hH,hB,hz,q⟩:=h
  cases rx
  obtain ⟨u,rfl,ru⟩:=rv.one
  cases ru
  obtain ⟨z,its,n,r,hl,e⟩:=I.lstM hH
  have hB':∃ (T:String) (its2:List Value) (n2:Nat) (dd:Option Addr) (sl:Array (Option Value)),(T = "list" ∨ T = "tuple")∧Vals zs its2∧s.heap.get? b=some { cls:=.type T,dict:=dd,data:=.seq its2.toArray n2,slots:=sl }:=by
    rcases hB with hB | hB
    · obtain ⟨its2,rv2,⟨o,n2,e2,c2,d2,hd2⟩,_⟩:=I.list hB
      obtain ⟨cls,dd,data,sl⟩:=o
      simp only at c2 hd2
      subst c2 hd2
      exact ⟨"list",its2,n2,dd,sl,.inl rfl,rv2,e2⟩
    · obtain ⟨its2,rv2,⟨o,e2,c2,n2,hd2⟩,_⟩:=I.tuple hB
      obtain ⟨cls,dd,data,sl⟩:=o
      simp only at c2 hd2
      subst c2 hd2
      exact ⟨"tuple",its2,n2,dd,sl,.inr rfl,rv2,e2⟩
  obtain ⟨T,its2,n2,dd,sl,hT,r2,e2⟩:=hB'
  have hl2:=r2.length
  have hsz:its.toArray.size+its2.toArray.size≤sizeLine:=by rw [List.size_toArray,List.size_toArray]; lia
  have hlong:¬ (!its.toArray.isEmpty && Builtin.List.listTooLong (its.toArray.size+its2.toArray.size))=true:=by
    rw [notLongL hsz,Bool.and_false]
    exact Bool.false_ne_true
  refine call_meets F.slot_list_extend ⟨_,e,rfl⟩ F.entry_list_extend (F.args_list_extend_2 _ _)
    (ext_meets hT l its.toArray n b its2.toArray n2 dd sl hlong (by rw [List.size_toArray]; lia) (by lia)) ⟨e,e2,?_⟩
  refine ⟨.non,_,I.lset (its':=its++its2) hH e (by simp) (r.append r2) ?_,rfl,q⟩
  rw [List.length_append]
  lia
noncomputable def gExtend:List D→List Slot→Option (D×List D):=fun ds ss=>match ss with
  | [.val (.tup es)]=>if ds.length+es.length < big then some (.non,ds++es) else none
  | [.fz es]=>if ds.length+es.length < big then some (.non,ds++es) else none
  | _=>none
theorem mr_extend:MR' K gExtend (rExtQ K):=fun H p vs ds ss xs d ds' Q hp hl hr hg k=>by
  unfold gExtend at hg
  split at hg
  · rename_i es
    obtain ⟨v,us,rfl,⟨⟨a,ws,rfl,q,l⟩,_⟩,hu⟩:=hr
    have hu:us=[]:=hu
    subst hu
    split at hg
    · rename_i hz
      cases hg
      exact ⟨p,a,vs,ws,rfl,rfl,hp,.inr q,by rw [hl.length,l.length]; exact Nat.le_of_lt (big_line hz),k .non _ (hl.append l) fun _=>rfl⟩
    · cases hg
  · rename_i es
    obtain ⟨v,us,rfl,⟨⟨a,ws,rfl,q,l⟩,_⟩,hu⟩:=hr
    have hu:us=[]:=hu
    subst hu
    split at hg
    · rename_i hz
      cases hg
      exact ⟨p,a,vs,ws,rfl,rfl,hp,.inl q.sq,by rw [hl.length,l.length]; exact Nat.le_of_lt (big_line hz),k .non _ (hl.append l) fun _=>rfl⟩
    · cases hg
  · cases hg
end
end Mi
namespace Mi
open PySem L2
open PySem.Spec
variable {K:PySem.W.Frag}{H H':Hp}{O O':Addr→Prop}{fp fp':Nat→List Addr}{B:Hp}{ρ ρ':En}{σ:L2.St}
noncomputable def compL2 (tg:MG)(c:M Bool)(elt:M R):List Slot→En→Option (List (List D)×En)
  | [],ρ=>some ([],ρ)
  | s::r,ρ=>(tg s ρ).bind fun ρ1=>(c ρ1).bind fun y=>if y.1=true then (elt y.2).bind fun z=>match z.1 with
      | .of (.own d)=>(compL2 tg c elt r z.2).bind fun w=>some (d::w.1,w.2)
      | _=>none
    else compL2 tg c elt r y.2
noncomputable def mComp2 (ks:List Nat)(tg:MG)(it:M (List Slot))(c:M Bool)(elt:M R):M R:=fun ρ=>(it ρ).bind fun x=>if x.1.length < big∧ks.all (plainAt x.2)=true then
    (compL2 tg c elt x.1 (maskE ks x.2)).bind fun w=>if ks.all (noOwn w.2)=true then some (.of (.own2 w.1),unmask ks x.2 w.2) else none else none
noncomputable def OwA (K:PySem.W.Frag)(H:Hp)(O:Addr→Prop)(fp:Nat→List Addr)(O₂:Addr→Prop)(fp₂:Nat→List Addr)(acc:Addr)(dn:List (List D))(vs:List V):Prop:=
  ∃ qs,vs=qs.map .ref∧OwL K H dn qs∧(acc::qs).Nodup∧(∀ a∈qs,fl O fp a)∧∀ a∈qs,¬ fl O₂ fp₂ a
theorem OwL.length:∀ {dss:List (List D)} {qs:List Addr},OwL K H dss qs→qs.length=dss.length
  | [],_,h=>by have h':_=[]:=h; subst h'; rfl
  | ds::dss,qs,h=>by
    obtain ⟨q,us,r,rfl,_,_,l⟩:=h
    rw [List.length_cons,List.length_cons,OwL.length l]
theorem OwL.append:∀ {dss:List (List D)} {qs:List Addr} {ess:List (List D)} {rs:List Addr},OwL K H dss qs→OwL K H ess rs→OwL K H (dss++ess) (qs++rs)
  | [],_,_,_,h,q=>by have h':_=[]:=h; subst h'; exact q
  | ds::dss,qs,_,_,h,q=>by
    obtain ⟨p,us,r,rfl,h1,h2,h3⟩:=h
    exact ⟨p,us,_,rfl,h1,h2,OwL.append h3 q⟩
section
variable {O₂:Addr→Prop}{fp₂:Nat→List Addr}{acc:Addr}{dn:List (List D)}{vs:List V}
theorem OwA.nil:OwA K H O fp O₂ fp₂ acc [] []:=⟨[],rfl,rfl,by simp,fun _ z=>by simp at z,fun _ z=>by simp at z⟩
theorem OwA.length (h:OwA K H O fp O₂ fp₂ acc dn vs):vs.length=dn.length:=by
  obtain ⟨qs,rfl,hw,_⟩:=h
  rw [List.length_map,hw.length]
theorem OwA.fr (h:OwA K H O fp O₂ fp₂ acc dn vs)(F:Fr H O fp H' O' fp')(l:∀ b,O b→LO (H b)):OwA K H' O' fp' O₂ fp₂ acc dn vs:=by
  obtain ⟨qs,rfl,hw,nd,h1,h2⟩:=h
  exact ⟨qs,rfl,hw.eq (F.tk l) fun a ha=>(F.flt a (h1 a ha).1 (h1 a ha).2).1,nd,fun a ha=>F.fl a (h1 a ha),h2⟩
theorem OwA.floats (h:OwA K H O fp O₂ fp₂ acc dn vs){a:Addr}(z:V.ref a∈vs):fl O fp a:=by
  obtain ⟨qs,rfl,hw,nd,h1,h2⟩:=h
  obtain ⟨b,hb,e⟩:=List.mem_map.mp z
  cases e
  exact h1 a hb
theorem OwA.push (h:OwA K H O fp O₂ fp₂ acc dn vs){p:Addr}{us:List V}{ds:List D}(ha:H acc=some (.lst vs))(hp:H p=some (.lst us))(hu:IsL K H ds us)(hfa:fl O fp acc)(hfp:fl O fp p)(hne:¬ (p=acc∨V.ref p∈vs))(hz:¬ fl O₂ fp₂ p):
    OwA K (L2.upd H acc (.lst (vs++[.ref p]))) O fp O₂ fp₂ acc (dn++[ds]) (vs++[.ref p]):=by
  obtain ⟨qs,rfl,hw,nd,h1,h2⟩:=h
  have hpa:p≠acc:=fun z=>hne (.inl z)
  have hpq:p∉qs:=fun z=>hne (.inr (List.mem_map.mpr ⟨p,z,rfl⟩))
  have t:=tk_upd (us:=qs.map V.ref++[.ref p]) ha
  rw [List.nodup_cons] at nd
  refine ⟨qs++[p],by simp,OwL.append (hw.eq t fun a haq=>upd_ne (fun z=>nd.1 (z ▸ haq))) ⟨p,us,[],rfl,by rw [upd_ne hpa]; exact hp,hu.tk t,rfl⟩,?_,fun a haq=>?_,fun a haq=>?_⟩
  · rw [List.nodup_cons,List.nodup_append]
    refine ⟨fun z=>?_,nd.2,by simp,fun a ha b hb e=>?_⟩
    · rcases List.mem_append.mp z with z | z
      · exact nd.1 z
      · have z':acc=p:=by simpa using z
        exact hpa z'.symm
    · have:b=p:=by simpa using hb
      exact hpq (this ▸ e ▸ ha)
  · rcases List.mem_append.mp haq with z | z
    · exact h1 a z
    · have:a=p:=by simpa using z
      rw [this]; exact hfp
  · rcases List.mem_append.mp haq with z | z
    · exact h2 a z
    · have:a=p:=by simpa using z
      rw [this]; exact hz
end
section
variable {X:Cx}{elt tg iter:Expr}{ifs:List Expr}{scope:Scope}{pos:Pos}{ks:List Nat}{g:MG}{it:M (List Slot)}{c:M Bool}{f:M R}
inductive BInv2 (X X':Cx)(B:Hp)(ks:List Nat)(g:MG)(c:M Bool)(f:M R)(its:List Slot)(fpi:List Addr)(tn:Nat→Heap→Prop)(acc:Addr)(σ:L2.St)(H₂:Hp)(O₂:Addr→Prop)(fp₂:Nat→List Addr)(ds:List (List D))(ρe:En)(n:Nat)(s:Shared):Prop
  | mk:∀ (i:Nat) (σ':L2.St) (H':Hp) (O':Addr→Prop) (fp':Nat→List Addr) (ρ':En) (dn rs:List (List D)) (vs:List V),(n=its.length - i)→(i≤its.length)→(Inv X' [] σ' H' s)→(tn i s.heap)→((∀ b∈fpi,H' b=none))→(Rel X.K B ρ' σ' H' O' fp')→(Agr ks σ σ')→(Fr H₂ O₂ fp₂ H' O' fp')→(H' acc=some (.lst vs))→(fl O' fp' acc)→(OwA X.K H' O' fp' O₂ fp₂ acc dn vs)→(dn.length≤i)→(compL2 g c f (its.drop i) ρ'=some (rs,ρe))→(ds=dn++rs)→BInv2 X X' B ks g c f its fpi tn acc σ H₂ O₂ fp₂ ds ρe n s
theorem blk_loop2 (hc:X.calm=true){C acc:Addr}{cells:List (Str×Addr)}{s₂:Shared}{H₂:Hp}{fpi:List Addr}{X':Cx}(hX:X'=blk X scope C cells s₂ H₂ fpi)(bt:QG X' tg ks g)(bi:QTs X' ifs c)(be:QE X' elt f)(ok':X'.Ok)
    {σ:L2.St} {O₂:Addr→Prop} {fp₂:Nat→List Addr} {J:It} {its:List Slot} {i0:Addr} {tn:Nat→Heap→Prop}
    (T:Turn X.prog X.w X.K tg J fpi i0 tn) (W:Walk X.K J its H₂ O₂ fp₂) (hz:its.length < big) (hl₂:∀ b,O₂ b→LO (H₂ b)) (hacc:H₂ acc=none)
    {ds:List (List D)} {ρe:En} {RR:Result→Shared→Prop}
    (k:∀ σ' H' O' fp' vs s',Inv X' [] σ' H' s'→Rel X.K B ρe σ' H' O' fp'→Agr ks σ σ'→Fr H₂ O₂ fp₂ H' O' fp'→H' acc=some (.lst vs)→fl O' fp' acc→OwA X.K H' O' fp' O₂ fp₂ acc ds vs→RR (.ok .next) s') {s:Shared} {n:Nat}
    (h:BInv2 X X' B ks g c f its fpi tn acc σ H₂ O₂ fp₂ ds ρe n s):
    codeAny (model X.prog X.w) X.A (.compLoop (.ListComp elt [⟨tg,iter,ifs,0⟩] scope pos) 0 (.ref i0) (.ref acc) (blkEnv scope X.env C cells)) RR s:=by
  subst hX
  refine loop_any (BInv2 X (blk X scope C cells s₂ H₂ fpi) B ks g c f its fpi tn acc σ H₂ O₂ fp₂ ds ρe) ?_ n h
  rintro n s1 ⟨i,σ',H',O',fp',ρ',dn,rs,vs,rfl,hi,I,st,fr,R',ag,F',ha,hfl,hd,hdl,hL,rfl⟩
  have stat:∀ {H':Hp},(∀ b∈fpi,H' b=none)→∀ b∈fpi,FpOk (blk X scope C cells s₂ H₂ fpi) [] H' b:=fun hn b hb=>
    ⟨hn b hb,(ok'.exf b hb).1,ok'.exfs b hb,.inl hb,(ok'.exf b hb).2,fun p hp=>absurd (show p∈([]:List (Addr×Obj))++[] from hp) (by simp)⟩
  by_cases hlt:i < its.length
  · have hd':its.drop i=its[i]::its.drop (i+1):=List.drop_eq_getElem_cons hlt
    rw [hd'] at hL
    obtain ⟨ρ1,q1,hL⟩:=bind_some hL
    obtain ⟨⟨y,ρ2⟩,q2,hL⟩:=bind_some hL
    obtain ⟨g1,g2⟩:=W.go H' O' fp' F' i its[i] (by simp [hlt])
    refine thn (T.item (blk X scope C cells s₂ H₂ fpi) rfl rfl rfl hc i [] s1 σ' H' (fun _ _=>False) I (stat fr) st g1) fun r s2 zq=>?_
    obtain ⟨u,hr,h4⟩:=zq
    subst hr
    refine thn h4 fun _ s5 zq=>?_
    obtain ⟨x,H5,I5,r5,y5,st5,fr5⟩:=zq
    obtain ⟨sm,sl⟩:=g2 x H5 y5
    have I5':=I5.pinned (stat fr5) (T.obj _ _ st5)
    refine thn (bt _ s5 σ' H5 x u (fun σ6 H6=>∃ O6 fp6,Agr ks σ' σ6∧Rel X.K B ρ1 σ6 H6 O6 fp6∧Fr H5 O' fp' H6 O6 fp6) I5' r5 ⟨B,ρ',O',fp',its[i],ρ1,R'.grow sm,sl,q1,fun σ6 H6 O6 fp6 A6 R6 F6=>⟨O6,fp6,A6,R6,F6⟩⟩) fun _ s6 zq=>?_
    obtain ⟨σ6,H6,I6,O6,fp6,A6,R6,F6⟩:=zq
    refine thn (bi _ s6 σ6 H6 (fun b H7=>b=y∧∃ O7 fp7,Rel X.K B ρ2 σ6 H7 O7 fp7∧Fr H6 O6 fp6 H7 O7 fp7) I6 ⟨B,ρ1,O6,fp6,y,ρ2,R6,q2,fun H7 O7 fp7 R7 F7=>⟨rfl,O7,fp7,R7,F7⟩⟩) fun b s7 zq=>?_
    obtain ⟨H7,I7,hb,O7,fp7,R7,F7⟩:=zq
    subst hb
    have F57:Fr H' O' fp' H7 O7 fp7:=(Fr.grow R' sm).trans (F6.trans F7)
    have ag6:Agr ks σ σ6:=⟨A6.1.trans ag.1,fun j hj=>(A6.2 j hj).trans (ag.2 j hj)⟩
    -- behind the turn
    have back:∀ {H9:Hp} {O9:Addr→Prop} {fp9:Nat→List Addr} {ρ9:En} {dn9 rs9:List (List D)} {vs9:List V} {s9:Shared},Inv (blk X scope C cells s₂ H₂ fpi) ([]++pinsAt fpi s5.heap) σ6 H9 s9→Rel X.K B ρ9 σ6 H9 O9 fp9→Fr H₂ O₂ fp₂ H9 O9 fp9→
        H9 acc=some (.lst vs9)→fl O9 fp9 acc→OwA X.K H9 O9 fp9 O₂ fp₂ acc dn9 vs9→dn9.length≤i+1→compL2 g c f (its.drop (i+1)) ρ9=some (rs9,ρe)→dn++rs=dn9++rs9→
        ∃ m,m < its.length - i∧BInv2 X (blk X scope C cells s₂ H₂ fpi) B ks g c f its fpi tn acc σ H₂ O₂ fp₂ (dn++rs) ρe m s9:=fun {H9 O9 fp9 ρ9 dn9 rs9 vs9 s9} I9 R9 F9 a9 f9 d9 l9 c9 e9=>by
      refine ⟨its.length - (i+1),by omega,i+1,σ6,H9,O9,fp9,ρ9,dn9,rs9,vs9,rfl,hlt,I9.unpinned,T.keep _ _ _ st5 fun b hb o e=>(I9.pin (b,o) (List.mem_append_right _ (List.mem_append_right _ (mem_pinsAt hb e)))).1,fun b hb=>?_,R9,ag6,F9,a9,f9,d9,l9,c9,e9⟩
      obtain ⟨o,e,d⟩:=T.obj _ _ st5 b hb
      exact (I9.pin (b,o) (List.mem_append_right _ (List.mem_append_right _ (mem_pinsAt hb e)))).2.1
    have tk7:=F57.tk R'.lst
    obtain ⟨ea7,oa7,na7⟩:=F57.flt acc hfl.1 hfl.2
    cases b with
    | false=>
      rw [if_neg Bool.false_ne_true] at hL
      refine iteF ?_
      exact back I7 R7 (F'.trans F57) (ea7.trans ha) ⟨oa7,na7⟩ (hd.fr F57 R'.lst) (Nat.le_succ_of_le hdl) hL rfl
    | true=>
      rw [if_pos rfl] at hL
      refine iteT ?_
      obtain ⟨⟨z,ρ3⟩,q3,hL⟩:=bind_some hL
      refine thn (be _ s7 σ6 H7 (fun v H8=>∃ O8 fp8,Rel X.K B ρ3 σ6 H8 O8 fp8∧ResOk X.K H8 O8 fp8 σ6 (fl O7 fp7) z v∧Fr H7 O7 fp7 H8 O8 fp8) I7 ⟨B,ρ2,O7,fp7,z,ρ3,R7,q3,fun v H8 O8 fp8 R8 k8 F8=>⟨O8,fp8,R8,k8,F8⟩⟩) fun u8 s8 zq=>?_
      obtain ⟨v,H8,I8,r8,O8,fp8,R8,k8,F8⟩:=zq
      dsimp only at hL
      split at hL
      · rename_i d
        obtain ⟨⟨rs9,ρ9⟩,q4,hL⟩:=bind_some hL
        cases hL
        have F58:=F57.trans F8
        obtain ⟨ea8,oa8,na8⟩:=F58.flt acc hfl.1 hfl.2
        obtain ⟨ff,⟨pn,us,rfl,hpn,hul,rfl⟩,_,hff⟩:=k8
        have d8:=hd.fr F58 R'.lst
        have hfz:=hff pn (by simp)
        have d7:=hd.fr F57 R'.lst
        have ea:H8 acc=some (.lst vs):=ea8.trans ha
        refine thn (mt_append (X:=blk X scope C cells s₂ H₂ fpi) _ s8 σ6 H8 (.ref acc) [.ref pn] (.ref acc) [u8] (fun _ H9=>H9=L2.upd H8 acc (.lst (vs++[.ref pn]))) I8 rfl (.cons r8 .nil) ⟨acc,vs,.ref pn,rfl,rfl,ea,by rw [hd.length]; exact big_line (by omega),rfl⟩) fun u9 s9 zq=>?_
        obtain ⟨v9,H9,I9,r9,e9⟩:=zq
        subst e9
        refine back I9 (R8.updF ea ⟨oa8,na8⟩) ((F'.trans F58).updN hl₂ hacc) upd_same ⟨oa8,na8⟩ (d8.push ea hpn hul ⟨oa8,na8⟩ hfz.1 (fun z=>hfz.2 (by rcases z with rfl | z; exact ⟨oa7,na7⟩; exact d7.floats z)) (fun z=>hfz.2 ((F'.trans F57).fl pn z))) (by rw [List.length_append]; simp; omega) q4 (by simp)
      · cases hL
  · have e:i=its.length:=by omega
    subst e
    rw [List.drop_length] at hL
    cases hL
    refine thn (T.done (blk X scope C cells s₂ H₂ fpi) rfl rfl rfl hc its.length [] s1 σ' H' (fun _ _=>False) I (stat fr) st (W.stop H' O' fp' F')) fun r s4 zq=>?_
    obtain ⟨hr,I4⟩:=zq
    subst hr
    exact k σ' H' O' fp' vs s4 I4 R' ag F' ha hfl (by simpa using hd)
theorem blk_run2 (hc:X.calm=true)(b:Blk X scope ks tg ifs elt g c f){pins:List (Addr×Obj)}{s₂:Shared}{σ:L2.St}{H₂:Hp}{O₂:Addr→Prop}{fp₂:Nat→List Addr}{ρ₂:En}{J:It}{its:List Slot}{fpi:List Addr}{i0:Addr}{tn:Nat→Heap→Prop}
    (I:Inv X pins σ H₂ s₂) (R2:Rel X.K B ρ₂ σ H₂ O₂ fp₂) (T:Turn X.prog X.w X.K tg J fpi i0 tn) (st:tn 0 s₂.heap) (fo:∀ b∈fpi,FpOk X pins H₂ b) (W:Walk X.K J its H₂ O₂ fp₂) (hz:its.length < big) (hp:ks.all (plainAt ρ₂)=true)
    {ds:List (List D)} {ρe:En} (hL:compL2 g c f its (maskE ks ρ₂)=some (ds,ρe)) (hn:ks.all (noOwn ρe)=true) {use:Option (Value→Sem Unit)} {Q:Value→Shared→Prop}
    (k:∀ (acc C:Addr) (s':Shared) (H':Hp) (O':Addr→Prop) (fp':Nat→List Addr),Inv X pins σ H' s'→Rel X.K B (unmask ks ρ₂ ρe) σ H' O' fp'→ResOk X.K H' O' fp' σ (fl O₂ fp₂) (.of (.own2 ds)) (.ref acc)→Fr H₂ O₂ fp₂ H' O' fp'→
      FpOk X pins H' C→(∃ m,s'.heap.Ns C m)→compPost (model X.prog X.w) X.A X.xe use Q (.ref acc) C (.ok .next) s'):
    wpAny (model X.prog X.w) X.A (newList []) (fun acc s₃=>wpAny (model X.prog X.w) X.A (newFunctionEnv scope X.env.globals (clF X.env.cells scope.names []) [] X.env.qual none .none (some X.env)) (fun cenv s₄=>
      codeAny (model X.prog X.w) X.A (.compStart (.ListComp elt [⟨tg,iter,ifs,0⟩] scope pos) 0 (.ref i0) acc { cenv with scope:=relabel scope X.env }) (compPost (model X.prog X.w) X.A X.xe use Q acc cenv.locals) s₄) X.xe s₃) X.xe s₂:=by
  have hobj:∀ b∈fpi,∃ o,s₂.heap.get? b=some o:=fun b hb=>let ⟨o,h,_⟩:=T.obj 0 _ st b hb; ⟨o,h⟩
  have I1:=blk_start (ks:=ks) I b.ok hc fo hobj
  refine wpAny_newObj_type (nfe ?_)
  have ez:(s₂.heap.push { cls:=.type "list",dict:=none,data:=.seq ([]:List Value).toArray }).objs.size=s₂.heap.objs.size+1:=Heap.size_push ..
  dsimp only
  rw [ez]
  have hfr:H₂ s₂.heap.objs.size=none:=I.hok.fresh (Nat.le_refl _)
  have n1:∀ a,a=s₂.heap.objs.size→H₂ a=none:=fun a z=>by rw [z]; exact hfr
  have sm:=same_new hfr (.lst [])
  have start:BInv2 X (blk X scope (s₂.heap.objs.size+1) (cellsFrom (s₂.heap.objs.size+2) scope.names (clF X.env.cells scope.names [])) s₂ H₂ fpi) B ks g c f its fpi tn s₂.heap.objs.size σ H₂ O₂ fp₂ ds ρe its.length
      { s₂ with heap:=pushCells ((s₂.heap.push { cls:=.type "list",data:=.seq ([]:List Value).toArray }).push { cls:=.type "dict",data:=.dict #[] }) scope.names }:=by
    have Rm:=R2.mask ks
    rw [plain_foot R2 hp] at Rm
    refine ⟨0,maskS ks σ,_,fun a=>O₂ a∨a=s₂.heap.objs.size,fp₂,maskE ks ρ₂,[],ds,[],by simp,Nat.zero_le _,I1,?_,fun b hb=>?_,Rm.take sm n1 fun a z=>.inl ⟨[],by rw [z]; exact upd_same⟩,⟨mask_get.1,fun j hj=>mask_get.2.1 j hj⟩,Fr.take R2 sm n1,upd_same,⟨.inr rfl,fun i z=>?_⟩,OwA.nil,Nat.le_refl _,by simpa using hL,rfl⟩
    · exact T.keep 0 _ _ st fun b hb o e=>pushCells_keeps _ _ _ _ (Heap.get?_push_of_some _ (Heap.get?_push_of_some _ e))
    · obtain ⟨o,ho⟩:=hobj b hb
      rw [upd_ne (Nat.ne_of_lt (Heap.lt_size ho))]
      exact (fo b hb).1
    · exact (R2.lst _ (R2.sub i _ z)).ne hfr
  have loop:=blk_loop2 (pos:=pos) (iter:=iter) hc rfl (b.tg (s₂.heap.objs.size+1) (cellsFrom (s₂.heap.objs.size+2) scope.names (clF X.env.cells scope.names [])) s₂ H₂ fpi) (b.ifs _ _ _ _ _) (b.elt _ _ _ _ _) I1.ok T W hz R2.lst hfr
    (RR:=compPost (model X.prog X.w) X.A X.xe use Q (.ref s₂.heap.objs.size) (s₂.heap.objs.size+1)) (fun σ' H' O' fp' vs s' I' R' ag F' ha hfl hd=>by
      obtain ⟨qs,rfl,hw,nd,hq1,hq2⟩:=hd
      have Ib:Inv X pins σ H' s':=I.call' (ch:=fpi) I'.os I'.base I'.hok I'.bare fun b hb=>⟨(fo b hb).2.2.2.1,(fo b hb).2.1,(fo b hb).2.2.2.2.1,(fo b hb).2.2.2.2.2⟩
      refine k _ _ s' H' O' fp' Ib (Rel.unmask R2 hp R' ag (F'.tk R2.lst) hn) ⟨s₂.heap.objs.size::qs,⟨_,qs,rfl,ha,hw,rfl⟩,nd,fun a z=>?_⟩ F' (I.fpOk (Nat.le_succ _) I'.free) (let ⟨m,h,_⟩:=I'.loc; ⟨m,h⟩)
      rcases List.mem_cons.mp z with z' | z'
      case inr=>exact ⟨hq1 a z',hq2 a z'⟩
      subst z'
      exact ⟨hfl,fun z=>(R2.lst _ z.1).ne hfr⟩) start
  exact codeAny_compStart_list loop (T.self _ 0 _ _ _ (T.keep 0 _ _ st fun b hb o e=>pushCells_keeps _ _ _ _ (Heap.get?_push_of_some _ (Heap.get?_push_of_some _ e))) loop)
theorem mComp_of2 {r:R}(hf:mComp2 ks g it c f ρ=some (r,ρ')):∃ its ρ2 ds ρe,it ρ=some (its,ρ2)∧its.length < big∧ks.all (plainAt ρ2)=true∧compL2 g c f its (maskE ks ρ2)=some (ds,ρe)∧ks.all (noOwn ρe)=true∧r=.of (.own2 ds)∧ρ'=unmask ks ρ2 ρe:=by
  obtain ⟨⟨its,ρ2⟩,h1,hf⟩:=bind_some hf
  dsimp only at hf
  split at hf
  · rename_i hz
    obtain ⟨⟨ds,ρe⟩,h2,hf⟩:=bind_some hf
    dsimp only at hf
    split at hf
    · rename_i hn
      cases hf
      exact ⟨its,ρ2,ds,ρe,h1,hz.1,hz.2,h2,hn,rfl,rfl⟩
    · cases hf
  · cases hf
end
section
variable {X:Cx}{elt tg iter:Expr}{ifs:List Expr}{scope:Scope}{pos py spos:Pos}{ks:List Nat}{g:MG}{it:M (List Slot)}{c:M Bool}{f:M R}{i:Nat}{x:Str}
theorem qs_setC2 (hc:X.calm=true)(hN:X.N.Nodup)(hi':X.N[i]?=some x)(hx:X.env.scope.names.lookup x=some .local)(hi:QI X tg iter it)(b:Blk X scope ks tg ifs elt g c f)
    (hsw:swapsWith (.ListComp elt [⟨tg,iter,ifs,0⟩] scope pos) (some (.Name x py)) spos.line X.env=pure true:=by rfl) (hs:∀ x,foldedSetIterable iter X.env x=pure x:=by intro _; rfl):
    QS X (.Assign [.Name x py] (.ListComp elt [⟨tg,iter,ifs,0⟩] scope pos) spos) (sSet i (mComp2 ks g it c f)):=by
  intro pins s σ H Dn I h
  obtain ⟨B,ρ,O,fp,o,R,hg,k⟩:=h
  obtain ⟨⟨xr,ρ'⟩,hf,hg⟩:=bind_some hg
  obtain ⟨its,ρ2,ds,ρe,h1,hz,hp,hL,hn,rfl,rfl⟩:=mComp_of2 hf
  dsimp only at hg
  split at hg
  · rename_i hlt
    cases hg
    rw [exec_Assign_Name_used _ _ _ _ hsw]
    refine wpAny_bind (wpAny_standAt (wpAny_bind ?_))
    show wpAny _ X.A (do let _ ←comprehension (.ListComp elt [⟨tg,iter,ifs,0⟩] scope pos) scope X.env _ (newList []) false (eval iter X.env) (some (assign (.Name x py) X.env))) _ _ s
    refine wpAny_bind (wpAny_mono (wpAny_comprehension_free (use:=some (assign (.Name x py) X.env)) (Q:=fun _ s'=>SP X pins Dn .next s') rfl hs (closure_pure fun x hx=>I.ok.has x (b.ok.free x hx)) b.ok.kind (names_of b.ok) ?_) (fun _ s' hq=>wpAny_pure (wpAny_pure hq)) fun _ _ e=>e)
    refine thn (hi pins s σ H (fun J H'=>∃ O' fp',Rel X.K B ρ2 σ H' O' fp'∧Fr H O fp H' O' fp'∧Walk X.K J its H' O' fp') I ⟨B,ρ,O,fp,its,ρ2,R,h1,fun J H' O' fp' R' F' W'=>⟨O',fp',R',F',W'⟩⟩) fun v s1 q1=>thn q1 fun itv s2 q2=>?_
    obtain ⟨i0,fpi,tn,J,H2,e,I2,T,st2,f2,O2,fp2,R2,F2,W2⟩:=q2
    subst e
    refine blk_run2 hc b I2 R2 T st2 f2 W2 hz hp hL hn fun acc C s' H' O' fp' I' R' k' F' fC hN'=>?_
    obtain ⟨m,hm⟩:=hN'
    show wpAny _ X.A (assign (.Name x py) X.env (.ref acc)) _ _ _
    refine wpAny_assign_Name (store_ok2 I' hN hi' (.inl hx) (show RelV (.ref acc) (.ref acc) from rfl) (fun s'' I'' ⟨a,sb,ha⟩=>?_) (.inr hx))
    have hCa:C≠a:=fun z=>by
      rcases ha with q | q
      · exact fC.2.1 (z.trans q)
      · exact fC.2.2.2.2.1 x a q z.symm
    refine ⟨m,hm.sameBut sb hCa,fun h' sb'=>?_⟩
    obtain ⟨fr,hs',nd,hff⟩:=k'
    refine ⟨σ.set i (some (.ref acc)),H',I''.turned (t':=s''.toks) (fun b o hb e=>(sb'.2 b hb).trans e) fC.1 fC.2.1 fC.2.2.2.1 fC.2.2.2.2.1 fC.2.2.2.2.2,?_⟩
    exact k _ H' O' _ (R'.set hs' nd (fun a ha=>(hff a ha).1) hlt) ((F2.trans F').set i fun a ha z=>(hff a ha).2 (F2.fl a z))
  · cases hg
end
end Mi
namespace Mi
open PySem L2
open PySem.Spec
variable {K:PySem.W.Frag}{H H':Hp}{O O':Addr→Prop}{fp fp':Nat→List Addr}{B:Hp}{ρ ρ':En}{σ:L2.St}
inductive tQ0 (K:PySem.W.Frag)(f:En→Option Int)(σ:L2.St)(H:Hp)(Q:VK):Prop
  | mk:∀ B ρ O fp i,(Rel K B ρ σ H O fp)→(f ρ=some i)→(Q (.int i) H)→tQ0 K f σ H Q
noncomputable abbrev QE0 (X:Cx)(e:Expr)(f:En→Option Int):Prop:=PE X e (tQ0 X.K f)
noncomputable def m0V (i:Nat):En→Option Int:=fun ρ=>(ρ[i]?).join.bind fun s=>match s with
  | .val (.int k)=>some k
  | _=>none
section
variable {X:Cx}{e a b c:Expr}{pos p2:Pos}
theorem q0_var {i:Nat}(h:PE X e (tVar i)):QE0 X e (m0V i):=h.imp fun σ H Q zq=>by
  obtain ⟨B,ρ,O,fp,k,R,hf,q⟩:=zq
  obtain ⟨s,h1,hf⟩:=bind_some hf
  obtain ⟨v,hv,hs⟩:=R.slot i s (join_some h1)
  split at hf
  · cases hf
    have e:v=.int k:=hs.1
    subst e
    exact ⟨_,hv,q⟩
  · cases hf
variable {f1 f2:En→Option Int}
end
noncomputable def own2At (ρ:En)(i:Nat):Option (List (List D)):=(ρ[i]?).join.bind fun s=>match s with
  | .own2 dss=>some dss
  | _=>none
theorem own2At_of {i:Nat}{dss:List (List D)}(h:own2At ρ i=some dss):ρ[i]?=some (some (.own2 dss)):=by
  obtain ⟨s,q,e⟩:=bind_some h
  cases s with
  | own2 es=>cases e; exact join_some q
  | _=>cases e
theorem OwL.upd (t:∀ us,Tk H (L2.upd H q (.lst us))){us':List V}{ds':List D}(hu:IsL K (L2.upd H q (.lst us')) ds' us'):∀ {dss:List (List D)} {qs:List Addr} {j:Nat},OwL K H dss qs→qs.Nodup→qs[j]?=some q→OwL K (L2.upd H q (.lst us')) (dss.set j ds') qs
  | [],qs,j,h,_,e=>by have h':_=[]:=h; subst h'; simp at e
  | ds::dss,qs,0,h,nd,e=>by
    obtain ⟨p,us,r,rfl,h1,h2,h3⟩:=h
    have e':p=q:=by simpa using e
    subst e'
    rw [List.nodup_cons] at nd
    exact ⟨p,us',r,rfl,upd_same,hu,h3.eq (t us') fun a ha=>upd_ne fun z=>nd.1 (z ▸ ha)⟩
  | ds::dss,qs,j+1,h,nd,e=>by
    obtain ⟨p,us,r,rfl,h1,h2,h3⟩:=h
    rw [List.nodup_cons] at nd
    have hq:r[j]?=some q:=by simpa using e
    have hm:q∈r:=List.mem_of_getElem? hq
    have hne:p≠q:=fun z=>nd.1 (z ▸ hm)
    exact ⟨p,us,r,rfl,by rw [upd_ne hne]; exact h1,h2.tk (t us'),OwL.upd t hu h3 nd.2 hq⟩
theorem OwL.get:∀ {dss:List (List D)} {qs:List Addr} {j:Nat} {ds:List D},OwL K H dss qs→dss[j]?=some ds→∃ q us,qs[j]?=some q∧H q=some (.lst us)∧IsL K H ds us
  | [],_,_,_,_,e=>by simp at e
  | d::dss,qs,0,ds,h,e=>by
    obtain ⟨p,us,r,rfl,h1,h2,h3⟩:=h
    simp at e; subst e
    exact ⟨p,us,rfl,h1,h2⟩
  | d::dss,qs,j+1,ds,h,e=>by
    obtain ⟨p,us,r,rfl,h1,h2,h3⟩:=h
    obtain ⟨q,us',g1,g2,g3⟩:=OwL.get (j:=j) h3 (by simpa using e)
    exact ⟨q,us',by simpa using g1,g2,g3⟩
theorem Rel.upd2 (r:Rel K B ρ σ H O fp){i j:Nat}{dss:List (List D)}{ds':List D}{p q:Addr}{qs:List Addr}{us us':List V}(hs:ρ[i]?=some (some (.own2 dss)))(hv:σ[i]?=some (some (.ref p)))(hf:fp i=p::qs)(hp:H p=some (.lst (qs.map .ref)))(hw:OwL K H dss qs)
    (hq:qs[j]?=some q) (hqu:H q=some (.lst us)) (hl:IsL K H ds' us'):
    Rel K B (ρ.set i (some (.own2 (dss.set j ds')))) σ (L2.upd H q (.lst us')) O fp∧Fr H O fp (L2.upd H q (.lst us')) O fp:=by
  have hmq:q∈qs:=List.mem_of_getElem? hq
  have qin:q∈fp i:=by rw [hf]; simp [hmq]
  have oq:O q:=r.sub i q qin
  have nd:=r.nd i
  rw [hf,List.nodup_cons] at nd
  have hi:=(List.getElem?_eq_some_iff.mp hs).1
  have t:∀ us,Tk H (L2.upd H q (.lst us)):=fun us=>tk_upd hqu
  refine ⟨⟨by simpa using r.len,fun k s h=>?_,fun k h=>?_,r.dis,r.nd,r.sub,fun b h=>?_,r.new,fun b o h=>?_⟩,Fr.upd oq qin⟩
  · by_cases e:k=i
    · subst e
      rw [List.getElem?_set_self hi] at h
      cases h
      have hne:p≠q:=fun z=>nd.1 (z ▸ hmq)
      exact ⟨_,hv,p,qs,rfl,by rw [upd_ne hne]; exact hp,OwL.upd t (hl.tk (t us')) hw nd.2 hq,hf⟩
    · rw [List.getElem?_set_ne (Ne.symm e)] at h
      obtain ⟨u,g,z⟩:=r.slot k s h
      exact ⟨u,g,z.upd hqu oq fun w=>e (r.dis k i q w qin)⟩
  · refine r.non k fun s z=>?_
    by_cases e:k=i
    · subst e
      exact h _ (List.getElem?_set_self hi)
    · exact h s (by rw [List.getElem?_set_ne (Ne.symm e)]; exact z)
  · by_cases e:b=q
    · exact .inl ⟨us',by rw [e]; exact upd_same⟩
    · rw [upd_ne e]; exact r.lst b h
  · rw [upd_ne (fun z=>by have w:=r.new q oq; rw [←z,h] at w; cases w)]
    exact r.keep b o h
noncomputable def setIx2 (i:Nat)(my mx:En→Option Int):MG:=fun s ρ=>match s with
  | .val d=>(own2At ρ i).bind fun dss=>(my ρ).bind fun ky=>(mx ρ).bind fun kx=>(ixN dss.length ky).bind fun j=>(dss[j]?).bind fun ds=>(ixN ds.length kx).bind fun l=>
      some (ρ.set i (some (.own2 (dss.set j (ds.set l d)))))
  | _=>none
section
variable {X:Cx}{e a b c:Expr}{pos p2:Pos}
theorem qg_ix2 {i:Nat}{my mx:En→Option Int}(ho:PE X a (tVar i))(hy:QE0 X b my)(hx:QE0 X c mx)(hs:PlainIx b)
    (ha:∀ v,assign (.Subscript (.Subscript a b p2) c pos) X.env v=(do
      let ov ←holding [v] (eval (.Subscript a b p2) X.env)
      let iv ←holding [v,ov] (eval c X.env)
      standAt pos
      holding [v,ov,iv] (setItem ov iv v)
      release [v,ov,iv] []):=by intro _; rfl):QG X (.Subscript (.Subscript a b p2) c pos) [] (setIx2 i my mx):=
  (pg_sub (pe_ix ix_list ho hy hs) hx set_list ha).imp fun v σ H Q zq=>by
    obtain ⟨B,ρ,O,fp,s,ρ',R,hs,hg,k⟩:=zq
    cases s with
    | val d=>
      obtain ⟨dss,q1,hg⟩:=bind_some hg
      obtain ⟨ky,q2,hg⟩:=bind_some hg
      obtain ⟨kx,q3,hg⟩:=bind_some hg
      obtain ⟨j,q4,hg⟩:=bind_some hg
      obtain ⟨ds,q5,hg⟩:=bind_some hg
      obtain ⟨l,q6,hg⟩:=bind_some hg
      cases hg
      obtain ⟨vo,e1,p,qs,rfl,hp,hw,hf⟩:=R.slot i _ (own2At_of q1)
      obtain ⟨q,us,g1,g2,g3⟩:=hw.get q5
      refine ⟨.ref p,e1,B,ρ,O,fp,ky,R,q2,p,qs.map .ref,ky,.ref q,rfl,rfl,SqL.of hp,?_,B,ρ,O,fp,kx,R,q3,q,us,kx,l,rfl,rfl,g2,?_,?_⟩
      · unfold atI
        rw [List.length_map,hw.length,q4]
        show (qs.map V.ref)[j]?=some (.ref q)
        rw [List.getElem?_map,g1]
        rfl
      · rw [g3.length]; exact q6
      · obtain ⟨R2,F2⟩:=R.upd2 (own2At_of q1) e1 hf hp hw g1 g2 (g3.set hs.1 l)
        exact k σ _ O fp Agr.refl R2 F2
    | _=>cases hg
end
end Mi
namespace Mi
open PySem L2
open PySem.Spec
variable {K:PySem.W.Frag}{H H':Hp}{O O':Addr→Prop}{fp fp':Nat→List Addr}{B:Hp}{ρ ρ':En}{σ:L2.St}
section
variable {X:Cx}
variable {a:Expr}{pos pos2 p p2:Pos}
theorem ints_are:∀ {ns:List Int} {us:List Value},Vals (ns.map V.int) us→PyProof.Rows.IntsAre us ns
  | [],_,.nil=>.nil
  | n::r,_,.cons ⟨t,e⟩ q=>by subst e; exact .cons n t (ints_are q)
end
end Mi
namespace Mi
open PySem L2
open PySem.Spec
variable {K:PySem.W.Frag}{H H':Hp}{O O':Addr→Prop}{fp fp':Nat→List Addr}{B:Hp}{ρ ρ':En}{σ:L2.St}
inductive CX1 (P:Program)(w:World)(outer:List Env)(H:Hp)(s:Shared)(E:XK)(e:Value)(s':Shared):Prop
  | mk:∀ (a:Addr) (C a0:Value) (H':Hp) (G:Heap),(e=.ref a)→(s'.os=s.os)→(PyProof.Rows.AllBare s'.gens)→(Un (frs outer) [] H H' s.heap s'.heap)→(HOk P w H' s'.heap)→(Heap.FlyingW G outer a C a0 s'.heap)→((∀ b o,s.heap.get? b=some o→b∉frs outer→H b=none→G.get? b=some o))→((∀ b o,s.heap.get? b=some o→b∉frs outer→∃ o',G.get? b=some o'))→((∀ b u,H' b=some u→∃ o,G.get? b=some o))→(H' a=none)→(E C none H')→CX1 P w outer H s E e s'
theorem obj_at {P:Program}{w:World}{h:Heap}{a:Addr}:∀ {o:HO},ObjOk P w H h a o→∃ ob,h.get? a=some ob
  | .lst _,x=>by obtain ⟨_,_,_,_,e⟩:=x; exact ⟨_,e⟩
  | .tup _,x=>by obtain ⟨_,_,_,_,e,_⟩:=x; exact ⟨_,e⟩
  | .dK _,x=>by obtain ⟨_,_,_,_,_,_,_,e,_⟩:=x; exact ⟨_,e⟩
  | .dT _,x=>by obtain ⟨_,_,_,_,_,_,_,e,_⟩:=x; exact ⟨_,e⟩
  | .set _ _,x=>by obtain ⟨_,_,_,_,e,_⟩:=x; exact ⟨_,e⟩
  | .ins _ _ _,x=>by obtain ⟨_,_,_,e,_⟩:=x; exact ⟨_,e⟩
  | .own _,x=>x
  | .xd _,x=>by obtain ⟨_,⟨_,_,_,e,_⟩,_⟩:=x; exact ⟨_,e⟩
  | .rng _ _,x=>by obtain ⟨_,_,_,e⟩:=x; exact ⟨_,e⟩
  | .frz _ _,x=>⟨_,x.1⟩
  | .tbl _,x=>⟨_,x⟩
  | .met _ _,x=>⟨_,x⟩
  | .ext _,x=>x.2.1
section
variable {P:Program}{w:World}{K:PySem.W.Frag}{mg:Str→Option Value}{base:Heap}{N:List Str}{qual:Str}{scope:Scope}{f:Addr}{cd:Value}{A:Around}{outer:List PySem.Env}{s₀:Shared}{H₀:Hp}{E:XK}
theorem raise_out {pins:List (Addr×Obj)}{σ:L2.St}{H:Hp}{s:Shared}{h':Heap}{e:Addr}{C:Value}{args:List Value}(I:Inv (cxOf (CX1 P w) P w K mg base N qual scope f cd A outer s₀ H₀ E) pins σ H s)
    (hx:Heap.MadeExcOf s.heap h' e C args) (hE:E C none H):(cxOf (CX1 P w) P w K mg base N qual scope f cd A outer s₀ H₀ E).xe (.ref e) { s with heap:=h' }:=by
  have hst:s.heap.FunFrames base (PyProof.Rows.envOfC qual scope s₀.heap.objs.size f cd::outer):=I.stack
  have hfr:(A.deeper (PyProof.Rows.envOfC qual scope s₀.heap.objs.size f cd)).frames=some (PyProof.Rows.envOfC qual scope s₀.heap.objs.size f cd::outer):=I.ok.frames
  have hin:∀ env∈(PyProof.Rows.envOfC qual scope s₀.heap.objs.size f cd::outer),∀ b,env.frame=some b→b∈(PyProof.Rows.envOfC qual scope s₀.heap.objs.size f cd::outer).filterMap (·.frame):=fun env he b hb=>List.mem_filterMap.mpr ⟨env,he,hb⟩
  have hmem:∀ b,b∈(PyProof.Rows.envOfC qual scope s₀.heap.objs.size f cd::outer).filterMap (·.frame)→b=s₀.heap.objs.size∨b∈frs outer:=fun b hb=>List.mem_cons.mp hb
  have old:∀ b o,s₀.heap.get? b=some o→b≠s₀.heap.objs.size:=fun b o q=>Nat.ne_of_lt (Heap.lt_size q)
  show wpAny _ _ (leaving _ _) _ _ _
  refine wpAny_leaves_madeW (s:={ s with heap:=h' }) hfr rfl (fun b o q=>PySem.W.of_hideAll _ q) (PySem.W.funFrames_hide hst hin) hx fun h'' t x1 x2 x3 x4=>?_
  have toG:∀ b o,s.heap.get? b=some o→b≠s₀.heap.objs.size→b∉frs outer→(PySem.W.hideAll s.heap ((PyProof.Rows.envOfC qual scope s₀.heap.objs.size f cd::outer).filterMap (·.frame))).get? b=some o:=
    fun b o q n1 n2=>PySem.W.hideAll_get _ q fun hm=>(hmem b hm).elim n1 n2
  have slots:∀ b∈frs outer,∀ o,s.heap.get? b=some o→∃ sl,h''.get? b=some { o with slots:=sl }:=fun b hb o q=>by
    obtain ⟨_,o',ho',hd⟩:=hst.mem (b:=b) (List.mem_cons_of_mem _ hb)
    rw [q] at ho'; cases ho'
    exact x4 b o (hx.keeps b o q) hd
  have b0:Un (frs outer) [] H₀ H s₀.heap s.heap:=I.base
  have fL:H s₀.heap.objs.size=none:=I.free
  have trk:∀ b u,H b=some u→b≠s₀.heap.objs.size∧b∉frs outer:=fun b u q=>by
    refine ⟨fun z=>?_,fun z=>?_⟩
    · rw [←z,q] at fL; cases fL
    · have:=I.stkFree b (List.mem_cons_of_mem _ z)
      rw [q] at this; cases this
  refine ⟨e,C,.ref t,H,_,rfl,I.os,I.bare,⟨fun b o q n hb hx=>?_,fun b o q n hb hx=>?_,fun b o q n hx=>b0.free b o q n hx,fun b o q hx=>?_,b0.tups,b0.frzs,b0.tbls⟩,fun b u q=>?_,x1,fun b o q n1 n2=>?_,fun b o q n1=>?_,fun b u q1=>?_,?_,hE⟩
  · exact x1.1 b o (toG b o (b0.keep b o q n hb hx) (old b o q) hb)
  · obtain ⟨sl,q1⟩:=b0.slot b o q n hb hx
    obtain ⟨sl2,q2⟩:=slots b hb _ q1
    exact ⟨sl2,q2⟩
  · obtain ⟨o',q1⟩:=b0.there b o q hx
    by_cases hb:b∈frs outer
    · obtain ⟨sl,q2⟩:=slots b hb o' q1
      exact ⟨_,q2⟩
    · exact ⟨o',x1.1 b o' (toG b o' q1 (old b o q) hb)⟩
  · refine (I.hok b u q).stay (fun c uc hc qc=>?_) (fun _ z=>z) fun _ _ z=>z
    have tc:∃ v,H c=some v:=by
      rcases hc with rfl | hc
      · exact ⟨u,q⟩
      · exact ⟨_,hc⟩
    obtain ⟨v,tc⟩:=tc
    exact x1.1 c uc (toG c uc qc (trk c v tc).1 (trk c v tc).2)
  · exact toG b o (b0.keep b o q n2 n1 (by simp)) (old b o q) n1
  · obtain ⟨o',q1⟩:=b0.there b o q (by simp)
    exact ⟨o',toG b o' q1 (old b o q) n1⟩
  · obtain ⟨o',q3⟩:=obj_at (I.hok b u q1)
    exact ⟨o',toG b o' q3 (trk b u q1).1 (trk b u q1).2⟩
  · cases q:H e with
    | none=>rfl
    | some u=>
      obtain ⟨o',q3⟩:=obj_at (I.hok e u q)
      rw [hx.new] at q3; cases q3
end
inductive OutX where
  | o (x:Out) | ex (c:Str)
noncomputable abbrev MX:=En→Option OutX
noncomputable def OutXOk (K:PySem.W.Frag)(B:Hp)(H:Hp)(O:Addr→Prop)(fp:Nat→List Addr)(D:Ends)(W:Str→Hp→Prop):OutX→Prop
  | .o x=>OutOk K B H O fp D x
  | .ex c=>∀ ρ' σ' H' O' fp',Rel K B ρ' σ' H' O' fp'→W c H'
inductive tQX (K:PySem.W.Frag)(W:Str→Hp→Prop)(g:MX)(D:Ends)(σ:L2.St)(H:Hp):Prop
  | mk:∀ B ρ O fp o,(Rel K B ρ σ H O fp)→(g ρ=some o)→(OutXOk K B H O fp D W o)→tQX K W g D σ H
noncomputable abbrev QX (X:Cx)(W:Str→Hp→Prop)(st:Stmt)(g:MX):Prop:=PS X st (tQX X.K W g)
noncomputable abbrev QXs (X:Cx)(W:Str→Hp→Prop)(st:List Stmt)(g:MX):Prop:=PSs X st (tQX X.K W g)
theorem OutXOk.fr {D:Ends}{W:Str→Hp→Prop}{o:OutX}{H1:Hp}{O1:Addr→Prop}{fp1:Nat→List Addr}(F:Fr H O fp H1 O1 fp1)(h:OutXOk K B H O fp D W o):OutXOk K B H1 O1 fp1 D W o:=by
  cases o with
  | o x=>exact OutOk.fr F h
  | ex c=>exact h
noncomputable def xO (g:MS):MX:=fun ρ=>(g ρ).bind fun o=>some (.o o)
noncomputable def xSeq (a b:MX):MX:=fun ρ=>(a ρ).bind fun o=>match o with
  | .o (.nx ρ')=>b ρ'
  | .o (.rt s)=>some (.o (.rt s))
  | .o (.bk ρ')=>some (.o (.bk ρ'))
  | .o (.ct ρ')=>some (.o (.ct ρ'))
  | .ex c=>some (.ex c)
noncomputable def xIf (c:M Bool)(a b:MX):MX:=fun ρ=>(c ρ).bind fun x=>if x.1=true then a x.2 else b x.2
noncomputable def xRaise (c:Str):MX:=fun _=>some (.ex c)
noncomputable def xforL (tg:MG)(body:MX):List Slot→MX
  | []=>fun ρ=>some (.o (.nx ρ))
  | s::r=>fun ρ=>(tg s ρ).bind fun ρ1=>(body ρ1).bind fun o=>match o with
    | .o (.nx ρ2)=>xforL tg body r ρ2
    | .o (.ct ρ2)=>xforL tg body r ρ2
    | .o (.bk ρ2)=>some (.o (.nx ρ2))
    | .o (.rt s)=>some (.o (.rt s))
    | .ex c=>some (.ex c)
noncomputable def xFor (tg:MG)(it:M (List Slot))(body:MX):MX:=fun ρ=>(it ρ).bind fun x=>xforL tg body x.1 x.2
section
variable {X:Cx}{W:Str→Hp→Prop}{e a b tg iter:Expr}{st:Stmt}{rest body:List Stmt}{pos:Pos}
theorem qx_lift {g:MS}(h:QS X st g):QX X W st (xO g):=h.imp fun D σ H zq=>by
  obtain ⟨B,ρ,O,fp,o,R,hg,k⟩:=zq
  obtain ⟨o1,h1,hg⟩:=bind_some hg
  cases hg
  exact ⟨B,ρ,O,fp,o1,R,h1,k⟩
theorem qxs_lift {g:MS}(h:QSs X rest g):QXs X W rest (xO g):=h.imp fun D σ H zq=>by
  obtain ⟨B,ρ,O,fp,o,R,hg,k⟩:=zq
  obtain ⟨o1,h1,hg⟩:=bind_some hg
  cases hg
  exact ⟨B,ρ,O,fp,o1,R,h1,k⟩
theorem qxs_cons {g1 g2:MX}(h1:QX X W st g1)(h2:QXs X W rest g2):QXs X W (st::rest) (xSeq g1 g2):=(pss_cons h1 h2).imp fun D σ H h=>by
  obtain ⟨B,ρ,O,fp,o,R,hg,k⟩:=h
  obtain ⟨o1,h1,hg⟩:=bind_some hg
  refine ⟨B,ρ,O,fp,o1,R,h1,?_⟩
  cases o1 with
  | ex c=>cases hg; exact k
  | o x=>
    cases x with
    | nx ρ1=>exact fun σ' H' O' fp' R' F'=>⟨B,ρ1,O',fp',o,R',hg,k.fr F'⟩
    | rt s=>cases hg; exact k
    | bk ρ1=>cases hg; exact k
    | ct ρ1=>cases hg; exact k
theorem qxs_one {g:MX}(h1:QX X W st g):QXs X W [st] g:=pss_one h1
theorem qx_if {c:Expr}{as bs:List Stmt}{m:M Bool}{g h:MX}(hc:QT X c m)(ha:QXs X W as g)(hb:QXs X W bs h):QX X W (.If c as bs pos) (xIf m g h):=
  (ps_if hc ha hb).imp fun D σ H zq=>by
    obtain ⟨B,ρ,O,fp,o,R,hg,k⟩:=zq
    obtain ⟨⟨x,ρ1⟩,h1,hg⟩:=bind_some hg
    refine ⟨B,ρ,O,fp,x,ρ1,R,h1,fun H' O' fp' R' F'=>?_⟩
    cases x with
    | true=>
      rw [if_pos rfl] at hg
      rw [if_pos rfl]
      exact ⟨B,ρ1,O',fp',o,R',hg,k.fr F'⟩
    | false=>
      rw [if_neg Bool.false_ne_true] at hg
      rw [if_neg Bool.false_ne_true]
      exact ⟨B,ρ1,O',fp',o,R',hg,k.fr F'⟩
theorem xfor_of {D:Ends}{ks:List Nat}{it:M (List Slot)}{g:MG}{m:MX}{σ:L2.St}{H:Hp}(h:tQX K W (xFor g it m) D σ H):tFor (tQI K it) (tQG K ks g) (tQX K W m) D σ H:=by
  obtain ⟨B,ρ,O,fp,o,R,hg,k⟩:=h
  obtain ⟨⟨its,ρ1⟩,h1,hg⟩:=bind_some hg
  refine ⟨B,ρ,O,fp,its,ρ1,R,h1,fun J H1 O1 fp1 R1 F1 W1=>?_⟩
  refine ⟨fun i m' σ' H'=>m'=its.length - i∧i≤its.length∧∃ ρ' O' fp',Rel K B ρ' σ' H' O' fp'∧Fr H1 O1 fp1 H' O' fp'∧xforL g m (its.drop i) ρ'=some o,⟨its.length,by simp,Nat.zero_le _,ρ1,O1,fp1,R1,Fr.refl,hg⟩,?_⟩
  rintro i m' σ' H' ⟨rfl,hi,ρ',O',fp',R',F',e'⟩
  by_cases hlt:i < its.length
  · right
    have hd:its.drop i=its[i]::its.drop (i+1):=List.drop_eq_getElem_cons hlt
    rw [hd] at e'
    obtain ⟨ρ2,q2,e'⟩:=bind_some e'
    obtain ⟨ob,q3,e'⟩:=bind_some e'
    obtain ⟨g1,g2⟩:=W1.go H' O' fp' F' i its[i] (by simp [hlt])
    refine ⟨g1,fun σ2 H2=>∃ ρ' O' fp',Rel K B ρ' σ2 H2 O' fp'∧Fr H1 O1 fp1 H2 O' fp'∧xforL g m (its.drop (i+1)) ρ'=some o,fun σ2 H2 h=>⟨its.length - (i+1),by omega,rfl,hlt,h⟩,fun x H2 y=>?_⟩
    obtain ⟨sm,sl⟩:=g2 x H2 y
    refine ⟨B,ρ',O',fp',its[i],ρ2,R'.grow sm,sl,q2,fun σ3 H3 O3 fp3 _ R3 F3=>⟨B,ρ2,O3,fp3,ob,R3,q3,?_⟩⟩
    have F4:Fr H1 O1 fp1 H3 O3 fp3:=F'.trans ((Fr.grow R' sm).trans F3)
    cases ob with
    | ex c=>cases e'; exact k
    | o x=>
      cases x with
      | nx ρ4=>exact fun σ4 H4 O4 fp4 R4 F5=>⟨ρ4,O4,fp4,R4,F4.trans F5,e'⟩
      | ct ρ4=>exact fun σ4 H4 O4 fp4 R4 F5=>⟨ρ4,O4,fp4,R4,F4.trans F5,e'⟩
      | bk ρ4=>
        cases e'
        exact fun σ4 H4 O4 fp4 R4 F5=>k σ4 H4 O4 fp4 R4 (F1.trans (F4.trans F5))
      | rt s=>
        cases e'
        exact k
  · left
    have e:i=its.length:=by omega
    subst e
    rw [List.drop_length] at e'
    cases e'
    exact ⟨W1.stop H' O' fp' F',k σ' H' O' fp' R' (F1.trans F')⟩
theorem qx_for {it:M (List Slot)}{ks:List Nat}{g:MG}{m:MX}(hp:PassesOwn (model X.prog X.w) X.A X.env X.xe)(hc:X.calm=true)(hi:QI X tg iter it)(hg:QG X tg ks g)(hb:QXs X W body m)
    (hs:∀ x,foldedSetIterable iter X.env x=pure x:=by intro _; rfl):QX X W (.For tg iter body [] pos) (xFor g it m):=(ps_for hp hc hi hg hb hs).imp fun D σ H h=>xfor_of h
end
def vBases:List Value:=[.type "ValueError",.type "Exception",.type "BaseException",.type "object"]
structure OwnX (K:PySem.W.Frag)(mg:Str→Option Value)(x:Str)(C:Addr):Prop where
  bound:mg x=some (.ref C)
  exc:PySem.W.excIn K C vBases "ValueError.__new__" = true
theorem own_obj {h:Heap}{C:Addr}{bmB:List Value}{newId:String}(X:K.In h)(q:PySem.W.excIn K C bmB newId=true):
    ∃ bm N nm q bs hdct sn sub ab col dd k0 k1 k2 k3 k5 mN,h.get? C=some (excClassObj nm q C N bs bm hdct sn sub ab col dd k0 k1 k2 k3 k5 newId)∧h.Ns N mN∧mN "__init__" = none∧OwnTail h bmB bm:=by
  unfold PySem.W.excIn at q; split at q
  · rename_i dd cd sl ho
    split at q
    · rename_i C' bm k0 k1 k2 k3 n k5 hm hs; simp only [Bool.and_eq_true,beq_iff_eq,Bool.not_eq_true'] at q
      obtain ⟨⟨⟨⟨⟨rfl,rfl⟩,hdel⟩,ht⟩,hok⟩,hni⟩:=q; obtain ⟨nm,bs,mro,ns,qn,hd,sn,sub,ab,col,del⟩:=cd
      dsimp only at hm hdel hok hni
      subst hm hdel
      have hsl:sl=#[k0,k1,k2,k3,some (.builtin n),k5]:=by obtain ⟨l⟩:=sl; simp only at hs; rw [hs]
      subst hsl; exact ⟨bm,ns,nm,qn,bs,hd,sn,sub,ab,col,dd,k0,k1,k2,k3,k5,_,X _ _ ho,.of_isNs (PySem.W.isNs_of_in X hok),PySem.W.nsMap_none_of_in X hok hni,PySem.W.tail_of_in X ht⟩
    · cases q
  · cases q
noncomputable def Raiser (X:Cx)(W:Str→Hp→Prop):Prop:=∀ (pins:List (Addr×Obj)) (σ:L2.St) (H:Hp) (s:Shared) (h':Heap) (e:Addr) (c:Str) (C:Value) (args:List Value),Inv X pins σ H s→X.mg c=some C→Heap.MadeExcOf s.heap h' e C args→W c H→X.xe (.ref e) { s with heap:=h' }
section
variable {X:Cx}{W:Str→Hp→Prop}{c txt:Str}{C:Addr}{np cpos pos p2:Pos}{j:Nat}
theorem ps_raise (R:Raiser X W)(hc:X.calm=true)(O:OwnX X.K X.mg c C)(hg:Gl X c)(hd:(c == ("__debug__" : Str))=false:=by decide)
    (he:starEach [Expr.Constant (.str txt) j p2] X.env=[(false,eval (Expr.Constant (.str txt) j p2) X.env)]:=by rfl):
    PS X (.Raise (some (.Call (.Name c np) [.Constant (.str txt) j p2] [] cpos)) none pos) (fun _ _ H=>W c H):=by
  intro pins s σ H D I h
  obtain ⟨bm,N,nm,q,bs,hdct,sn,sub,ab,col,dd,k0,k1,k2,k3,k5,mN,hC,hN,hni,T⟩:=own_obj I.ok.mod.kin O.exc
  refine wpAny_Raise_call_subT (C:=C) (nm:=nm) (q:=q) (N:=N) (bs:=bs) (bm:=bm) (hdct:=hdct) (sn:=sn) (sub:=sub) (ab:=ab) (col:=col) (dd:=dd) (k0:=k0) (k1:=k1) (k2:=k2) (k3:=k3) (k5:=k5)
    PySem.F.excBase_ValueError (mN:=mN) (T.hasType PySem.F.excBase_ValueError.hasBase) (I.ok.hd hc) (by rw [he]; rfl) hni (ld_glob I hg O.bound ⟨rfl,?_⟩ hd)
  rw [he]
  refine Calls.evalArgs_plain ?_
  refine Calls.spliced_cons ?_
  refine Calls.Constant_str (k:=j) (pos:=p2) ?_
  refine Calls.spliced_nil ?_
  have I1:=I.tok (s.toks+1)
  exact ⟨rfl,by show 1≤sizeLine; decide,I.bk _ _ hC,hN.keeps I.bk,T.keeps I.bk,fun h' e hx=>R pins σ H _ h' e c _ _ I1 O.bound hx h⟩
theorem qx_raise (R:Raiser X W)(hc:X.calm=true)(O:OwnX X.K X.mg c C)(hg:Gl X c)(hd:(c == ("__debug__" : Str))=false:=by decide)
    (he:starEach [Expr.Constant (.str txt) j p2] X.env=[(false,eval (Expr.Constant (.str txt) j p2) X.env)]:=by rfl):
    QX X W (.Raise (some (.Call (.Name c np) [.Constant (.str txt) j p2] [] cpos)) none pos) (xRaise c):=
  (ps_raise R hc O hg hd he).imp fun D σ H zq=>by
    obtain ⟨B,ρ,O,fp,o,Rr,hg,k⟩:=zq
    cases hg
    exact k ρ σ H O fp Rr
end
inductive ResX where
  | v (s:Slot) | x (c:Str)
inductive spX (K:PySem.W.Frag)(mg:Str→Option Value)(n:Nat)(F:List Slot→Option ResX)(vs:List V)(H:Hp)(Q:VK)(E:XK):Prop
  | mk:∀ ss r,(ss.length=n)→(RdL K H ss vs)→(F ss=some r)→(match r with
  | .v s=>Good K H s Q
  | .x c=>∀ C H',mg c=some C→Same H H'→E C none H')→spX K mg n F vs H Q E
noncomputable def runX (n N:Nat)(g:MX):List Slot→Option ResX:=fun ss=>if ss.length=n then (g (ss.map some++List.replicate (N - n) none)).bind fun o=>match o with
  | .o (.nx _)=>some (.v (.val .non))
  | .o (.rt s)=>(fresh s).bind fun t=>some (.v t)
  | .o (.bk _)=>none
  | .o (.ct _)=>none
  | .ex c=>some (.x c)
  else none
structure CalX (P:Program)(w:World)(K:PySem.W.Frag)(mg:Str→Option Value)(base:Heap)(k:Nat)(x:Str)(n:Nat)(F:List Slot→Option ResX):Prop where
  ex:∃ f fd ps,FnOk P w K mg base (CX1 P w) k f fd ps (spX K mg n F)∧Binds K fd ps []∧PySem.W.keepIn K (.ref f)=true∧mg x=some (.ref f)
end Mi
namespace Mi
open PySem L2
open PySem.Spec
variable {K:PySem.W.Frag}{H H':Hp}{O O':Addr→Prop}{fp fp':Nat→List Addr}{B:Hp}{ρ ρ':En}{σ:L2.St}
noncomputable def nrm (F:List Slot→Option ResX):List Slot→Option Slot:=fun ss=>(F ss).bind fun r=>match r with
  | .v s=>some s
  | .x _=>none
theorem passX {X:Cx}{P:Program}{w:World}:Passes (CX1 P w) X E0:=fun _ _ _ _ _ _ _ h=>by
  obtain ⟨a,C,a0,H',G,_,_,_,_,_,_,_,_,_,_,h⟩:=h
  exact h.elim
section
variable {X:Cx}{e:Expr}{es:List Expr}{pos p:Pos}{k n:Nat}{x:Str}{F:List Slot→Option ResX}{m:M (List R)}
theorem q_callX (C:CalX X.prog X.w X.K X.mg X.base k x n F)(hr:Room k X.A)(hg:Gl X x)(ha:QA X (e::es) m)
    (hdb:(x == ("__debug__" : Str))=false:=by decide) (he:starEach (e::es) X.env=(false,eval e X.env)::starEach es X.env:=by rfl) (hpl:(backTo pos (starEach es X.env)).any (·.1)=false:=by rfl):
    QE X (.Call (.Name x p) (e::es) [] pos) (mOpF (ofLen n (nrm F)) m):=by
  obtain ⟨f,fd,ps,G,hb,hk,hm⟩:=C.ex
  refine q_opN (r:=fun vs H Q=>spX X.K X.mg n F vs H Q E0) (fun H ss vs s Q h e g=>by
    have e':(if ss.length=n then nrm F ss else none)=some s:=e
    by_cases z:ss.length=n
    · rw [if_pos z] at e'
      obtain ⟨r,h1,h2⟩:=bind_some e'
      cases r with
      | v t=>cases h2; exact ⟨ss,.v s,z,h,h1,g⟩
      | x c=>cases h2
    · rw [if_neg z] at e'; cases e')
    ((pe_call G hr hg hm hk hb .nil passX ha hdb he hpl).imp fun σ H Q h=>by
      obtain ⟨B,ρ,O,fp,rs,ρ',R,hf,k⟩:=h
      exact ⟨B,ρ,O,fp,rs,ρ',R,hf,fun vs H' O' fp' R' k' F'=>by
        show spX X.K X.mg n F (vs++[]) H' Q E0
        rw [List.append_nil]
        exact k vs H' O' fp' R' k' F'⟩)
end
noncomputable abbrev marked (X:Cx)(a:Addr):Cx:={ X with A:=X.A.mark (some (.ref a)),calm:=false,xe:=fun _ _=>False }
theorem Ok.marked {X:Cx}(ok:X.Ok)(a:Addr):(marked X a).Ok:=
  ⟨ok.mod,ok.kind,ok.glob,ok.blt,ok.above,ok.inj,ok.has,ok.cab,(fun z=>by cases z),ok.frames,ok.stk,ok.exf,ok.bs,ok.bsz,ok.noex,ok.exfs,ok.funs,ok.frf⟩
section
variable {X:Cx}{pins:List (Addr×Obj)}{σ:L2.St}{H H1 H2:Hp}{s s1 s':Shared}{D:Ends}{E:XK}
theorem inv_mark (I:Inv X pins σ H s)(a:Addr):Inv (marked X a) pins σ H s:=⟨Ok.marked I.ok a,I.os,I.bare,I.base,I.loc,I.cell,I.free,I.freeC,I.pin,I.hok,I.len⟩
theorem inv_land {G h6:Heap}(I:Inv X pins σ H1 s1)(hos:s'.os=s1.os)(hb:PyProof.Rows.AllBare s'.gens)(un:Un (frs X.stack) [] H1 H2 s1.heap s'.heap)(hok:HOk X.prog X.w H2 s'.heap)
    (c1:∀ b o,s1.heap.get? b=some o→b∉frs X.stack→H1 b=none→G.get? b=some o) (c2:∀ b o,s1.heap.get? b=some o→b∉frs X.stack→∃ o',G.get? b=some o') (c3:∀ b u,H2 b=some u→∃ o,G.get? b=some o)
    (g1:G.StaysIn s'.heap) (g6:G.StaysIn h6) (up:s'.heap.UpToSlots h6) (tk:Nat):Inv X pins σ H2 { s' with heap:=h6,toks:=tk }:=by
  have slots:∀ b∈frs X.stack,∀ o,s1.heap.get? b=some o→∀ sl,s'.heap.get? b=some { o with slots:=sl }→∃ sl,h6.get? b=some { o with slots:=sl }:=fun b hb o q sl q1=>by
    obtain ⟨_,o',ho',hd⟩:=I.stack.mem (b:=b) hb
    rw [q] at ho'; cases ho'
    obtain ⟨sl2,q2⟩:=up b _ q1 hd
    exact ⟨sl2,q2⟩
  refine I.call' (s':={ s' with heap:=h6,toks:=tk }) (ch:=[]) hos ⟨fun b o q n hb hx=>g6 b o (c1 b o q hb n),fun b o q n hb hx=>?_,fun b o q n hx=>un.free b o q n hx,fun b o q hx=>?_,un.tups,un.frzs,un.tbls⟩ (fun b u q=>?_) hb (fun b z=>absurd z (by simp))
  · obtain ⟨sl,q1⟩:=un.slot b o q n hb hx
    exact slots b hb o q sl q1
  · by_cases hb:b∈frs X.stack
    · obtain ⟨sl,q1⟩:=un.slot b o q (I.stkFree b hb) hb hx
      obtain ⟨sl2,q2⟩:=slots b hb o q sl q1
      exact ⟨_,q2⟩
    · obtain ⟨o',q1⟩:=c2 b o q hb
      exact ⟨o',g6 b o' q1⟩
  · refine (hok b u q).stay (fun c uc hc qc=>?_) (fun _ z=>z) fun _ _ z=>z
    have tc:∃ v,H2 c=some v:=by
      rcases hc with rfl | hc
      · exact ⟨u,q⟩
      · exact ⟨_,hc⟩
    obtain ⟨v,tc⟩:=tc
    obtain ⟨o,q1⟩:=c3 c v tc
    have:=g1 c o q1
    rw [qc] at this; cases this
    exact g6 c uc q1
theorem looks_exc {M:Model}{h:Heap}{a:Addr}{C:Value}(p:∃ ob,h.get? a=some ob∧ob.cls=C):PySem.W.Looks M h (typeOf (.ref a)) C:=by
  obtain ⟨o,h1,h2⟩:=p
  exact h2 ▸ (PySem.W.Looks.ld h1).andThen .now
theorem eval_callX {Ex:Value→Shared→Prop}{Q:VK}{x:Str}{p pos:Pos}{ea:Expr}{es:List Expr}{t:TA}{k:Nat}{f:Addr}{fd:FuncData}{ps:List Str}{sp:Sp}(G:FnOk X.prog X.w X.K X.mg X.base (CX1 X.prog X.w) k f fd ps sp)
    (hr:Room k X.A) (hg:Gl X x) (hm:X.mg x=some (.ref f)) (hk:PySem.W.keepIn X.K (.ref f)=true) (hb:Binds X.K fd ps []) (ha:PA X (ea::es) t) (hx0:∀ e s,X.xe e s→False) (I:Inv X pins σ H s)
    (h:t σ H fun vs H1=>sp vs H1 Q E) (hp:∀ H1 s1 e s',Inv X pins σ H1 s1→CX1 X.prog X.w X.stack H1 s1 E e s'→Ex e s')
    (hdb:(x == ("__debug__" : Str))=false) (he:starEach (ea::es) X.env=(false,eval ea X.env)::starEach es X.env) (hpl:(backTo pos (starEach es X.env)).any (·.1)=false):
    wpAny (model X.prog X.w) X.A (eval (.Call (.Name x p) (ea::es) [] pos) X.env) (EP X pins σ Q) Ex s:=by
  refine wpAny_Call_Name_kw (ld_glob I hg hm ?_ hdb)
  refine PySem.W.callWith_K (h₀:=X.base) I.ok.mod.kin hk (wpAny_mono (ha pos pins s σ H _ I h) (fun us s1 ⟨vs,H1,I1,r,q⟩=>⟨I1.kIn,?_⟩) fun e s z=>(hx0 e s z).elim) he hpl
  have r2:Vals (vs++[]) (us++[]):=r.append .nil
  rw [List.append_nil,List.append_nil] at r2
  have hl:(us++[]).length=ps.length:=by rw [List.append_nil,←r2.length]; exact G.len _ _ _ _ q
  have hbb:=hb s1 us I1.kIn hl
  rw [List.append_nil] at hbb
  refine wpAny_call (codeAny_mono (G.run X.A X.stack s1 H1 ⟨us,[]⟩ us vs Q E hr I1.env0 hbb r2 q) fun rr s' hq=>?_)
  cases rr with
  | error e=>exact hp H1 s1 e s' I1 hq
  | ok fl=>
    cases fl with
    | ret u=>exact I1.after hq
    | next=>exact False.elim hq
    | brk=>exact False.elim hq
    | cont=>exact False.elim hq
end
end Mi
namespace Mi
open PySem PySem.Calls PyProof.Rows Builtin Builtin.ObjectAttr Builtin.Getset_descriptor
theorem find_data {K:PySem.W.Frag}{M:Model}{h:Heap}(X:K.In h){x C:Addr}{name:Str}{g a:Value}(ha:PySem.W.findIn K (.ref C) name=some (some a))(hg:PySem.W.specialIn K a "__get__" = some (some g))(ht:PySem.W.takesIn K a=some true):
    PySem.W.Looks M h (find (.ref x) (.ref C) name) (.bind g a):=by
  have L1:=PySem.W.looks_findIn (M:=M) X ha
  have L2:PySem.W.Looks M h (getOf (some a)) (some g):=PySem.W.looks_specialIn X hg
  have L3:=PySem.W.looks_takesIn (M:=M) X ht
  exact L1.andThen (L2.andThen ((show PySem.W.Looks M h (dataDescriptor? (some a) (some g)) (some (g,a)) from L3.andThen .now).andThen (PySem.W.Looks.tag .now)))
structure ExcKit (K:PySem.W.Frag)(C:Addr):Prop where
  cls:(PySem.W.clsIn K C).isSome=true
  ga:PySem.W.findIn K (.ref C) "__getattribute__" = some (some (.builtin "BaseException.__getattribute__"))
  no:PySem.W.findIn K (.ref C) "__getattr__" = some none
  at_:PySem.W.findIn K (.ref C) "__class__" = some (some (.builtin "object.__class__"))
  get:PySem.W.specialIn K (.builtin "object.__class__") "__get__" = some (some (.builtin "getset_descriptor.__get__"))
  tk:PySem.W.takesIn K (.builtin "object.__class__")=some true
  ob:PySem.W.mroIn K C (.type "object")=some true
  be:PySem.W.mroIn K C (.type "BaseException")=some true
section
variable {prog:Program}{w:World}{A:Around}{E:Value→Shared→Prop}{s:Shared}{K:PySem.W.Frag}{x C:Addr}
theorem class_of {R:Result→Shared→Prop}{tp:Value}(X:K.In s.heap)(k:ExcKit K C)(L0:PySem.W.Looks (model prog w) s.heap (typeOf (.ref x)) (.ref C))(h:R (.ok (.ret (.ref C))) s):
    codeAny (model prog w) A (.call (.builtin "getset_descriptor.__get__") ⟨[.builtin "object.__class__",.ref x,tp],[]⟩) R s:=by
  obtain ⟨hh,g,dr,t,os⟩:=s
  have L1:=PySem.W.looks_mroIn (M:=model prog w) X k.ob
  refine codeAny_call_builtin PySem.W.KF.slot_gs.plain PySem.W.KF.entry_gs (PySem.W.KF.slot_gs.check _ _ _ _ _ _ _ _ PySem.W.KF.type_class (PySem.W.KF.args_gs _ _ _) ?_)
  unfold Builtin.«getset_descriptor.__get__» descrGet; rw [PySem.W.dga_obj]; refine wpAny_bind (wpAny_pure ?_)
  unfold descrGetter descrCheckInstance descrNameAndClass isInstance; simp only [PySem.W.KF.owner_class]
  repeat lk
  refine ⟨Code.quiet_builtin _ (by decide +kernel),codeAny_builtin PySem.W.KF.entry_class ?_⟩; unfold Builtin.«object.__class__» shownTypeOf
  repeat lk
  exact h
theorem ga_check {M:Model}{nameV:Value}{Q:Unit→Shared→Prop}(X:K.In s.heap)(k:ExcKit K C)(L0:PySem.W.Looks M s.heap (typeOf (.ref x)) (.ref C))(hq:Q () s):wpAny M A (checkBuiltinCall "BaseException.__getattribute__" ⟨[.ref x,nameV],[]⟩) Q E s:=by
  have hk:builtinKind "BaseException.__getattribute__" = some .slot:=by decide +kernel
  have hsplit:splitId "BaseException.__getattribute__" = some ("BaseException","__getattribute__"):=by decide +kernel
  have L1:=PySem.W.looks_mroIn (M:=M) X k.be
  have ha:=PySem.F.args_bexc_ga (.ref x) nameV
  simp only [checkBuiltinCall,hk,hsplit]
  obtain ⟨hh,g,dr,t,os⟩:=s
  refine wpAny_bind ?_
  unfold isInstance
  refine wpAny_bind (L0.at (L1.at ?_))
  simp only [Bool.not_true,Bool.false_eq_true,if_false]
  refine wpAny_of_eq ha ?_
  exact hq
theorem exc_class {Q:Option Value→Shared→Prop}(X:K.In s.heap)(k:ExcKit K C)(L0:PySem.W.Looks (model prog w) s.heap (typeOf (.ref x)) (.ref C))(h:Q (some (.ref C)) { s with toks:=s.toks+1 }):
    wpAny (model prog w) A (getAttr? (.ref x) "__class__") Q E s:=by
  obtain ⟨hh,g,dr,t,os⟩:=s
  have L1:=PySem.W.looks_findIn (M:=model prog w) X k.ga
  have L2:=PySem.W.looks_findIn (M:=model prog w) X k.no
  have L3:=find_data (M:=model prog w) (x:=x) X k.at_ k.get k.tk
  unfold getAttr? getAttrBy? getAttrBy
  refine wpAny_bind (wpAny_mkText (wpAny_bind (wpAny_attempt (wpAny_holding (wpAny_bind (L0.at (wpAny_bind (L1.at ?_))))))))
  show wpAny _ _ (getAttrByItsOwn _ _ _ _ _ _) _ _ _
  unfold getAttrByItsOwn
  refine wpAny_bind ?_
  show wpAny _ _ (typeLookup (.ref C) "__getattr__") _ _ _
  refine L2.at ?_
  refine wpAny_bind (wpAny_attempt (wpAny_holding ?_))
  show wpAny _ _ (boundAndCalled _ _ _) _ _ _
  unfold boundAndCalled
  have FB:=PySem.F.attrBase_ValueError
  refine wpAny_bind (wpAny_of_eq (FB.ga.bind (.ref x)) ?_)
  show wpAny _ _ (call (.builtin "BaseException.__getattribute__") [.ref x,.str "__class__" t]) _ _ _
  refine wpAny_call (codeAny_call_builtin FB.ga.plain PySem.F.entry_bexc_ga (ga_check (s:=⟨hh,g,dr,t+1,os⟩) X k L0 ?_))
  unfold Builtin.«object.__getattribute__»
  refine wpAny_bind (wpAny_of_eq (a:=(Value.ref x,[Value.str "__class__" t])) rfl ?_)
  dsimp only
  refine wpAny_bind (wpAny_of_eq (a:=Str.ofString "__class__") rfl ?_)
  refine wpAny_bind (L0.at (wpAny_bind (L3.at ?_)))
  dsimp only
  show wpAny _ _ (holding [.builtin "object.__class__"] (call (.builtin "getset_descriptor.__get__") [.builtin "object.__class__",.ref x,.ref C])>>=ret) _ _ _
  refine wpAny_bind (wpAny_holding (wpAny_call (class_of (s:=⟨hh,g,dr,t+1,os⟩) X k L0 ?_)))
  refine wpAny_pure ?_
  show wpAny _ _ (handedOut (.ref C)) _ _ _
  refine wpAny_pure ?_
  exact wpAny_pure h
noncomputable def ExcAt (a C:Addr)(h:Heap):Prop:=∃ o,h.get? a=some o∧o.cls=.ref C
theorem kitx_exc (k:ExcKit K C):PySem.W.KitX K (.ref x) (.ref C) (ExcAt x C) where
  ty:=fun _ _ _ p=>looks_exc p
  it:=fun _ _ X _=>by
    obtain ⟨cdD,hcD⟩:=Option.isSome_iff_exists.mp k.cls
    unfold PySem.W.clsIn at hcD; split at hcD
    · rename_i c' d' cd' sl' ho
      intro A' Q' E' s' kk q; unfold isType loadHead
      exact wpAny_bind (wpAny_loadPart (kk _ _ (X _ _ ho)) (wpAny_pure q))
    · cases hcD
  ne:=fun h tp dd its n sl X htp=>by
    obtain ⟨cdD,hcD⟩:=Option.isSome_iff_exists.mp k.cls
    refine Bool.eq_false_iff.mpr fun q=>?_
    have e:C=tp:=Value.ref.inj (beq_iff_eq.mp q)
    subst e
    unfold PySem.W.clsIn at hcD; split at hcD
    · rename_i c' d' cd' sl' ho
      have z:=(X _ _ ho).symm.trans htp; cases z
    · cases hcD
  ca:=fun X p h=>exc_class X k (looks_exc p) h
end
end Mi
namespace Mi
open PySem L2
open PySem.Spec
variable {K:PySem.W.Frag}{H H':Hp}{O O':Addr→Prop}{fp fp':Nat→List Addr}{B:Hp}{ρ ρ':En}{σ:L2.St}
theorem rel_any (r:Rel K B ρ σ H O fp){i:Nat}(x:Option V)(h:∀ s,ρ[i]?≠some (some s)):Rel K B ρ (σ.set i x) H O fp:=by
  refine ⟨by simpa using r.len,fun j s q=>?_,r.non,r.dis,r.nd,r.sub,r.lst,r.new,r.keep⟩
  have hj:i≠j:=fun z=>h s (z ▸ q)
  obtain ⟨v,e,k⟩:=r.slot j s q
  exact ⟨v,by rw [List.getElem?_set_ne hj]; exact e,k⟩
noncomputable abbrev pinned (X:Cx)(a:Addr)(oe:Obj):Cx:={ X with A:=X.A.mark (some (.ref a)),calm:=false,pn:=(a,oe)::X.pn,xe:=fun _ _=>False }
theorem Ok.pinned {X:Cx}(ok:X.Ok)(a:Addr)(oe:Obj):(pinned X a oe).Ok:=
  ⟨ok.mod,ok.kind,ok.glob,ok.blt,ok.above,ok.inj,ok.has,ok.cab,(fun z=>by cases z),ok.frames,ok.stk,ok.exf,ok.bs,ok.bsz,ok.noex,ok.exfs,ok.funs,ok.frf⟩
section
variable {X:Cx}{pins:List (Addr×Obj)}{σ:L2.St}{H H1 H2:Hp}{s s1 s':Shared}{D:Ends}{E:XK}{a:Addr}{oe:Obj}
theorem inv_pin (I:Inv X pins σ H s)(h1:s.heap.get? a=some oe)(h2:H a=none)(h3:a≠X.env.locals)(h4:a∉X.fs)(h5:∀ v,oe.data≠.cell v):Inv (pinned X a oe) pins σ H s:=
  ⟨Ok.pinned I.ok a oe,I.os,I.bare,I.base,I.loc,I.cell,I.free,I.freeC,fun p hp=>by
    rcases List.mem_cons.mp hp with rfl | hp
    · exact ⟨h1,h2,h3,h4,h5⟩
    · exact I.pin p hp,I.hok,I.len⟩
theorem inv_unpin (ok:X.Ok)(I:Inv (pinned X a oe) pins σ H s):Inv X pins σ H s:=⟨ok,I.os,I.bare,I.base,I.loc,I.cell,I.free,I.freeC,fun p hp=>I.pin p (List.mem_cons_of_mem _ hp),I.hok,I.len⟩
theorem forget {M:Model}{A:Around}{E:Value→Shared→Prop}{i:Nat}{x:Str}{pos:Pos}{Q:Unit→Shared→Prop}(I:Inv X pins σ H s)(hN:X.N.Nodup)(hi:X.N[i]?=some x)(hk:X.env.scope.names.lookup x=some .local)
    (h:∀ s',Inv X pins (σ.set i none) H s'→Q () s'):wpAny M A (do bindName X.env x .none; unbindBehindTheSuite X.env x pos) Q E s:=by
  obtain ⟨m,hn,hl⟩:=id I.loc
  have hcls:(X.env.scope.kind == .class || (X.env.scope.kind == .module && X.env.locals != X.env.globals))=false:=by rw [I.ok.kind]; rfl
  have cne:=I.cne
  have hiσ:i < σ.length:=by rw [I.len]; exact (List.getElem?_eq_some_iff.mp hi).1
  refine wpAny_nameGoes_keeps hk hn hcls fun h' v hn' hs=>?_
  obtain ⟨oL,_,_,hoL,_⟩:=id hn
  refine h _ ⟨I.ok,I.os,I.bare,⟨fun b o e n hb hx=>?_,fun b o e n hb hx=>?_,I.base.free,fun b o e hx=>?_,I.base.tups,I.base.frzs,I.base.tbls⟩,⟨_,hn',fun j y v' e1 e2 e3=>?_⟩,fun y c e=>?_,I.free,I.freeC,fun p hp=>?_,fun b ob e=>?_,by simpa using I.len⟩
  · exact (hs.2 b (Nat.ne_of_lt (Nat.lt_of_lt_of_le (Heap.lt_size e) I.ok.above))).trans (I.base.keep b o e n hb hx)
  · obtain ⟨sl,e1⟩:=I.base.slot b o e n hb hx
    exact ⟨sl,(hs.2 b (Nat.ne_of_lt (Nat.lt_of_lt_of_le (Heap.lt_size e) I.ok.above))).trans e1⟩
  · obtain ⟨o',e1⟩:=I.base.there b o e hx
    exact ⟨o',(hs.2 b (Nat.ne_of_lt (Nat.lt_of_lt_of_le (Heap.lt_size e) I.ok.above))).trans e1⟩
  · by_cases hj:j=i
    · subst hj
      rw [List.getElem?_set_self hiσ] at e2
      cases e2
    · rw [List.getElem?_set_ne (Ne.symm hj)] at e2
      obtain ⟨u',r',q⟩:=hl j y v' e1 e2 e3
      refine ⟨u',r',?_⟩
      rcases q with ⟨k,e⟩ | ⟨k,c,e,z⟩
      · refine .inl ⟨k,?_⟩
        have:y≠x:=fun e=>hj (nodup_ix hN e1 (e ▸ hi))
        simp [this,e]
      · exact .inr ⟨k,c,e,z.sameBut hs (cne y c e)⟩
  · obtain ⟨w',z⟩:=I.cell y c e
    exact ⟨w',z.sameBut hs (cne y c e)⟩
  · obtain ⟨e,n,ne,nf,d⟩:=I.pin p hp
    exact ⟨(hs.2 p.1 ne).trans e,n,ne,nf,d⟩
  · refine (I.hok b ob e).stay (fun c w' hc q=>(hs.2 c ?_).trans q) (fun _ q=>q) fun _ _ q=>q
    rintro rfl
    have fl:=I.free
    rcases hc with rfl | hc
    · rw [fl] at e; cases e
    · rw [fl] at hc; cases hc
noncomputable def gone (ie:Nat)(D:Ends):Ends:={ nx:=fun σ H=>D.nx (σ.set ie none) H,rt:=D.rt,bk:=fun σ H=>D.bk (σ.set ie none) H,ct:=fun σ H=>D.ct (σ.set ie none) H }
theorem sp_forget {M:Model}{A:Around}{E:Value→Shared→Prop}{i:Nat}{x:Str}{pos:Pos}{f:Flow}(ok:X.Ok)(hN:X.N.Nodup)(hi:X.N[i]?=some x)(hk:X.env.scope.names.lookup x=some .local)(h:SP (pinned X a oe) pins (gone i D) f s):
    wpAny M A (do bindName X.env x .none; unbindBehindTheSuite X.env x pos) (fun _ s'=>SP X pins D f s') E s:=by
  cases f with
  | next=>obtain ⟨σ',H',I,q⟩:=h; exact forget (inv_unpin ok I) hN hi hk fun s' I'=>⟨_,H',I',q⟩
  | brk=>obtain ⟨σ',H',I,q⟩:=h; exact forget (inv_unpin ok I) hN hi hk fun s' I'=>⟨_,H',I',q⟩
  | cont=>obtain ⟨σ',H',I,q⟩:=h; exact forget (inv_unpin ok I) hN hi hk fun s' I'=>⟨_,H',I',q⟩
  | ret u=>obtain ⟨v,σ',H',I,r,q⟩:=h; exact forget (inv_unpin ok I) hN hi hk fun s' I'=>⟨v,_,H',I',r,q⟩
theorem caughtAs {e:Value}{xc n:Str}{ie:Nat}{cD:Value}{np hpos:Pos}{b₀:Stmt}{suite:List Stmt}(I1:Inv X pins σ H1 s1)(c:CX1 X.prog X.w X.stack H1 s1 E e s')(hst:X.stack=X.env::X.outer)(hfr:X.env.frame=some X.env.locals)
    (hg:Gl X xc) (hm:X.mg xc=some cD) (hd:(xc == ("__debug__" : Str))=false) (hN:X.N.Nodup) (hi:X.N[ie]?=some n) (hk:X.env.scope.names.lookup n=some .local)
    (hE:∀ C H2,E C none H2→PySem.W.exmOne X.K C cD=some true∧∀ a oe s2,oe.cls=C→Inv (pinned X a oe) pins (σ.set ie (some (.ref a))) H2 s2→wpAny (model X.prog X.w) (pinned X a oe).A (execs (b₀::suite) X.env) (SP (pinned X a oe) pins (gone ie D)) (fun _ _=>False) s2):
    wpAny (model X.prog X.w) X.A (noteFrame e X.env) (fun _ s₂=>wpAny (model X.prog X.w) X.A (setFlight e none) (fun _ s₃=>wpAny (model X.prog X.w) X.A (handleBy e X.env [.ExceptHandler (some (.Name xc np)) (some n) (b₀::suite) hpos]) (SP X pins D) X.xe s₃) X.xe s₂) X.xe s':=by
  obtain ⟨a,C,a0,H2,G,rfl,hos,hb,un,hok,fl,c1,c2,c3,hn,hE0⟩:=c
  obtain ⟨hx,hs⟩:=hE C H2 hE0
  have hfr2:X.A.frames=some (X.env::X.outer):=by rw [←hst]; exact I1.ok.frames
  rw [hst] at fl
  refine wpAny_looks_onW hfr2 hfr fl fun h4 held up4=>?_
  refine wpAny_landsW held fun h5 fl5 up5=>?_
  have up45:s'.heap.UpToSlots h5:=up4.trans up5
  have I5:∀ tk,Inv X pins σ H2 { s' with heap:=h5,toks:=tk }:=fun tk=>inv_land I1 hos hb un hok c1 c2 c3 fl.1 fl5.1 up45 tk
  have I5m:=inv_mark (I5 s'.toks) a
  refine wpAny_handleBy_cons (codeAny_handlers_test (ld_glob I5m hg hm ?_ hd)) (by intro q; cases q)
  refine PySem.W.exm_one I5m.kIn (looks_exc fl5.there) hx _ _ _ _ (fun b o q=>q) ?_
  rw [if_pos rfl]
  refine codeAny_handlers_suite_as (PyProof.Rows.lands_againW fl5 fun h6 fl6 up6=>?_)
  have I6:Inv X pins σ H2 { s' with heap:=h6,toks:=s'.toks }:=inv_land I1 hos hb un hok c1 c2 c3 fl.1 fl6.1 (up45.trans up6) s'.toks
  obtain ⟨_,_,ff,oe,vs,_,_,_,q1,q2,q3,_⟩:=id fl6
  have ne:a≠X.env.locals:=fun z=>by
    obtain ⟨m,⟨o',es,ep,ho',hd',_⟩,_⟩:=I6.loc
    have ho2:h6.get? X.env.locals=some o':=ho'
    rw [←z,q1] at ho2; cases ho2; rw [q3] at hd'; cases hd'
  have nf:a∉X.fs:=fun z=>by
    obtain ⟨_,o',ho',hd'⟩:=I6.funs.mem z
    have ho2:h6.get? a=some o':=ho'
    rw [q1] at ho2; cases ho2; exact hd' _ q3
  have I7:=inv_pin (oe:=oe) I6 q1 hn ne nf fun v z=>by rw [q3] at z; cases z
  refine store_ok (X:=pinned X a oe) (v:=.ref a) I7 hN hi (.inl hk) rfl (fun s2 I8=>?_) (.inr hk)
  exact wpAny_mono (hs a oe s2 q2.1 I8) (fun f s2 h=>sp_forget I6.ok hN hi hk h) fun _ _ z=>z.elim
end
section
variable {X:Cx}{ie:Nat}{C:Addr}{e:Expr}{es:List Expr}{b:Bool}{bs:List Bool}{n x:Str}{p p1 p2 pos:Pos}
noncomputable def tIsx (ie:Nat)(a:Addr)(b:Bool):TE:=fun σ H Q=>σ[ie]?=some (some (.ref a))∧Q (.bl b) H
noncomputable def IsX (X:Cx)(ie:Nat)(C:Addr)(e:Expr)(b:Bool):Prop:=∀ a oe,oe.cls=Value.ref C→PE (pinned X a oe) e (tIsx ie a b)
noncomputable def tIsxs (ie:Nat)(a:Addr)(bs:List Bool):TA:=fun σ H Q=>σ[ie]?=some (some (.ref a))∧Q (bs.map .bl) H
noncomputable def IsXs (X:Cx)(ie:Nat)(C:Addr)(es:List Expr)(bs:List Bool):Prop:=∀ a oe,oe.cls=Value.ref C→PA (pinned X a oe) es (tIsxs ie a bs)
noncomputable def rIsx (a:Addr)(cv:V)(b:Bool):List V→Hp→VK→Prop:=fun xs H Q=>xs=[.ref a,cv]∧Q (.bl b) H
theorem call_isx {a:Addr}{oe:Obj}{c:Value}{cv:V}(k:ExcKit X.K C)(q:PySem.W.kitOne X.K (.ref C) c=some b)(ho:oe.cls=.ref C)(rc:∀ w,RelV cv w→w=c):CallR (pinned X a oe) (.builtin "isinstance") (rIsx a cv b):=fun pins s σ H xs us Q I r h=>by
  obtain ⟨rfl,hq⟩:=h
  obtain ⟨u,w',rfl,r1,r2⟩:=vals2 r
  cases rc _ r2
  have r1:u=Value.ref a:=r1
  subst r1
  exact PySem.W.kia_one (kitx_exc k) I.kIn ⟨oe,(I.pin (a,oe) (by simp)).1,ho⟩ q (fun z=>nomatch z) fun tk=>⟨.bl b,H,I.tok tk,rfl,hq⟩
theorem isx_own {D:Addr}(k:ExcKit X.K C)(hg:Gl X "isinstance")(hm:X.mg "isinstance" = none)(hi:X.N[ie]?=some n)(hk:X.env.scope.names.lookup n=some .local)(hgx:Gl X x)(hmx:X.mg x=some (.ref D))(q:PySem.W.kitOne X.K (.ref C) (.ref D)=some b)
    (hdn:(n == ("__debug__" : Str))=false:=by decide) (hcn:(n == ("__classdict__" : Str))=false:=by decide) (hdx:(x == ("__debug__" : Str))=false:=by decide)
    (he:starEach [.Name n p1,.Name x p2] X.env=(false,eval (.Name n p1) X.env)::starEach [.Name x p2] X.env:=by rfl) (hpl:(backTo pos (starEach [.Name x p2] X.env)).any (·.1)=false:=by rfl)
    (he2:starEach [.Name x p2] X.env=(false,eval (.Name x p2) X.env)::starEach [] X.env:=by rfl):
    IsX X ie C (.Call (.Name "isinstance" p) [.Name n p1,.Name x p2] [] pos) b:=fun a oe ho=>
  (pe_callB (X:=pinned X a oe) (call_isx (cv:=.ref D) k q ho fun w z=>z) hg hm PyProof.Rows.boot_isinstance (pa_cons (pe_var hi (.inl hk) hdn hcn) (pa_cons (pe_glob (v:=.ref D) hgx hmx rfl hdx) pa_nil he2) he) (by decide) (by decide) he hpl).imp
    fun σ H Q h=>⟨.ref a,h.1,rfl,h.2⟩
theorem isx_blt {T:String}(k:ExcKit X.K C)(hg:Gl X "isinstance")(hm:X.mg "isinstance" = none)(hi:X.N[ie]?=some n)(hk:X.env.scope.names.lookup n=some .local)(hgx:Gl X x)(hmx:X.mg x=none)(hbx:bootBuiltins x=some (.type T))(q:PySem.W.kitOne X.K (.ref C) (.type T)=some b)
    (hnx:x ≠ "__name__" := by decide) (hdn:(n == ("__debug__" : Str))=false:=by decide) (hcn:(n == ("__classdict__" : Str))=false:=by decide) (hdx:(x == ("__debug__" : Str))=false:=by decide)
    (he:starEach [.Name n p1,.Name x p2] X.env=(false,eval (.Name n p1) X.env)::starEach [.Name x p2] X.env:=by rfl) (hpl:(backTo pos (starEach [.Name x p2] X.env)).any (·.1)=false:=by rfl)
    (he2:starEach [.Name x p2] X.env=(false,eval (.Name x p2) X.env)::starEach [] X.env:=by rfl):
    IsX X ie C (.Call (.Name "isinstance" p) [.Name n p1,.Name x p2] [] pos) b:=fun a oe ho=>
  (pe_callB (X:=pinned X a oe) (call_isx (cv:=.ty T) k q ho fun w z=>z) hg hm PyProof.Rows.boot_isinstance (pa_cons (pe_var hi (.inl hk) hdn hcn) (pa_cons (pe_bltn (v:=.ty T) hgx hmx hbx rfl hnx hdx) pa_nil he2) he) (by decide) (by decide) he hpl).imp
    fun σ H Q h=>⟨.ref a,h.1,rfl,h.2⟩
theorem isxs_nil:IsXs X ie C [] []:=fun a oe ho=>PA.imp pa_nil fun σ H Q h=>h.2
theorem isxs_cons (h:IsX X ie C e b)(hr:IsXs X ie C es bs)(hs:starEach (e::es) X.env=(false,eval e X.env)::starEach es X.env:=by rfl):IsXs X ie C (e::es) (b::bs):=fun a oe ho=>
  (pa_cons (X:=pinned X a oe) (h a oe ho) (hr a oe ho) hs).imp fun σ H Q h=>⟨h.1,h.1,h.2⟩
theorem isl_bls:∀ bs:List Bool,IsL K H (bs.map .bl) (bs.map .bl)
  | []=>IsL.nil
  | b::bs=>IsL.cons rfl (isl_bls bs)
noncomputable def tMarks (ie im:Nat)(a:Addr)(bs:List Bool):TS:=fun D σ H=>σ[ie]?=some (some (.ref a))∧∀ q,H q=none→D.nx (σ.set im (some (.ref q))) (upd H q (.lst (bs.map .bl)))
theorem ps_marks {im:Nat}{mk:Str}{pm lp ap:Pos}{a:Addr}{oe:Obj}(h:IsXs X ie C es bs)(ho:oe.cls=Value.ref C)(hl:bs.length≤1000)(hN:X.N.Nodup)(hi:X.N[im]?=some mk)(hk:X.env.scope.names.lookup mk=some .local)
    (hs:swapsWith (.List es lp) (some (.Name mk pm)) ap.line X.env=pure false):PSs (pinned X a oe) [.Assign [.Name mk pm] (.List es lp) ap] (tMarks ie im a bs):=
  (pss_one (ps_set (X:=pinned X a oe) hN hi (.inl hk) (pe_lst (h a oe ho)) hs (.inr hk))).imp fun D σ H h=>⟨h.1,by
    rw [List.length_map]
    exact Nat.le_trans hl (by decide),fun q hq=>h.2 q hq⟩
end
noncomputable def putO (io:Option Nat)(v:V)(σ:L2.St):L2.St:=match io with
  | some i=>σ.set i (some v)
  | none=>σ
noncomputable def tTryA (io:Option Nat)(sp:Sp)(t:TA)(K:PySem.W.Frag)(cD:Value)(ok:Addr→List Bool→Prop)(ie im:Nat):TS:=fun D σ H=>t σ H fun vs H1=>sp vs H1 (fun v H2=>D.nx (putO io v σ) H2)
  (fun C _ H2=>PySem.W.exmOne K C cD=some true∧∃ Ca bs,C=.ref Ca∧ok Ca bs∧∀ a q,H2 q=none→D.nx (((σ.set ie (some (.ref a))).set im (some (.ref q))).set ie none) (upd H2 q (.lst (bs.map .bl))))
noncomputable def okIs (X:Cx)(ie:Nat)(es:List Expr):Addr→List Bool→Prop:=fun C bs=>IsXs X ie C es bs∧bs.length≤1000
section
variable {X:Cx}{i k ie im:Nat}{y x xc n mk:Str}{py p pos pa np hpos tpos pm lp ap:Pos}{ea:Expr}{es ms:List Expr}{t:TA}{f:Addr}{fd:FuncData}{ps:List Str}{sp:Sp}{cD:Value}
theorem hand_as {pins:List (Addr×Obj)}{σ:L2.St}{H1:Hp}{s1 s':Shared}{D:Ends}{e:Value}(I1:Inv X pins σ H1 s1)
    (c:CX1 X.prog X.w X.stack H1 s1 (fun C _ H2=>PySem.W.exmOne X.K C cD=some true∧∃ Ca bs,C=.ref Ca∧okIs X ie ms Ca bs∧∀ a q,H2 q=none→D.nx (((σ.set ie (some (.ref a))).set im (some (.ref q))).set ie none) (upd H2 q (.lst (bs.map .bl)))) e s')
    (hst:X.stack=X.env::X.outer) (hfr:X.env.frame=some X.env.locals) (hg:Gl X xc) (hm:X.mg xc=some cD) (hd:(xc == ("__debug__" : Str))=false) (hN:X.N.Nodup) (hi:X.N[ie]?=some n) (hk:X.env.scope.names.lookup n=some .local)
    (him:X.N[im]?=some mk) (hkm:X.env.scope.names.lookup mk=some .local) (hs:swapsWith (.List ms lp) (some (.Name mk pm)) ap.line X.env=pure false):
    wpAny (model X.prog X.w) X.A (noteFrame e X.env) (fun _ s₂=>wpAny (model X.prog X.w) X.A (setFlight e none) (fun _ s₃=>wpAny (model X.prog X.w) X.A (handleBy e X.env [.ExceptHandler (some (.Name xc np)) (some n) [.Assign [.Name mk pm] (.List ms lp) ap] hpos]) (SP X pins D) X.xe s₃) X.xe s₂) X.xe s':=
  caughtAs I1 c hst hfr hg hm hd hN hi hk fun C H2 ⟨h1,Ca,bs,h2,h3,h4⟩=>⟨h1,fun a oe s2 ho I2=>
    ps_marks h3.1 (ho.trans h2) h3.2 hN him hkm hs pins s2 _ H2 _ I2 ⟨List.getElem?_set_self (by rw [I1.len]; exact (List.getElem?_eq_some_iff.mp hi).1),fun q hq=>h4 a q hq⟩⟩
theorem ps_tryE (G:FnOk X.prog X.w X.K X.mg X.base (CX1 X.prog X.w) k f fd ps sp)(hr:Room k X.A)(hg:Gl X x)(hm:X.mg x=some (.ref f))(hk:PySem.W.keepIn X.K (.ref f)=true)(hb:Binds X.K fd ps [])(ha:PA X (ea::es) t)
    (hN:X.N.Nodup) (hx0:∀ e s,X.xe e s→False) (hst:X.stack=X.env::X.outer) (hfr:X.env.frame=some X.env.locals) (hgc:Gl X xc) (hmc:X.mg xc=some cD)
    (hie:X.N[ie]?=some n) (hke:X.env.scope.names.lookup n=some .local) (him:X.N[im]?=some mk) (hkm:X.env.scope.names.lookup mk=some .local)
    (hdb:(x == ("__debug__" : Str))=false:=by decide) (hdc:(xc == ("__debug__" : Str))=false:=by decide) (he:starEach (ea::es) X.env=(false,eval ea X.env)::starEach es X.env:=by rfl) (hpl:(backTo pos (starEach es X.env)).any (·.1)=false:=by rfl)
    (hsw:swapsWith (.Call (.Name x p) (ea::es) [] pos) none pa.line X.env=pure false:=by rfl) (hsm:swapsWith (.List ms lp) (some (.Name mk pm)) ap.line X.env=pure false:=by rfl):
    PS X (.Try [.Expr (.Call (.Name x p) (ea::es) [] pos) pa] [.ExceptHandler (some (.Name xc np)) (some n) [.Assign [.Name mk pm] (.List ms lp) ap] hpos] [] [] tpos) (tTryA none sp t X.K cD (okIs X ie ms) ie im):=by
  intro pins s σ H D I h
  refine wpAny_Try_except ?_
  refine wpAny_execs_cons ?_
  refine wpAny_Expr_any (thn (eval_callX (Ex:=_) G hr hg hm hk hb ha hx0 I h (fun H1 s1 e s' I1 c=>?_) hdb he hpl) fun v s1 ⟨z,H1,I1,r1,q1⟩=>?_) I.quiet hsw
  · exact hand_as I1 c hst hfr hgc hmc hdc hN hie hke him hkm hsm
  · exact wpAny_execs_nil (wpAny_execs_nil ⟨_,H1,I1,q1⟩)
end
noncomputable def putR (io:Option Nat)(s:Slot)(ρ:En):Option Out:=match io with
  | some i=>if i < ρ.length then some (.nx (ρ.set i (some s))) else none
  | none=>some (.nx ρ)
noncomputable def isNo (ρ:En)(i:Nat):Bool:=match ρ[i]? with
  | some none=>true
  | _=>false
theorem isNo_of {ρ:En}{i:Nat}(h:isNo ρ i=true):ρ[i]?=some none:=by
  unfold isNo at h
  split at h
  · assumption
  · cases h
noncomputable def sTryA (io:Option Nat)(n:Nat)(F:List Slot→Option ResX)(m:M (List R))(ie im:Nat)(tbl:Str→Option (List Bool)):MS:=fun ρ=>(m ρ).bind fun x=>(drs x.2 x.1).bind fun ss=>if ss.length=n then (F ss).bind fun r=>match r with
    | .v s=>(fresh s).bind fun t=>putR io t x.2
    | .x c=>(tbl c).bind fun bs=>if im < x.2.length∧ie≠im∧isNo x.2 ie=true then some (.nx (x.2.set im (some (.own (bs.map .bl))))) else none
  else none
theorem tryA_of {mg:Str→Option Value}{io:Option Nat}{n ie im:Nat}{F:List Slot→Option ResX}{m:M (List R)}{tbl:Str→Option (List Bool)}{cD:Value}{ok:Addr→List Bool→Prop}
    (ht:∀ c C bs,tbl c=some bs→mg c=some C→PySem.W.exmOne K C cD=some true∧∃ Ca,C=.ref Ca∧ok Ca bs) {D:Ends} {σ:L2.St} {H:Hp}
    (q:tQS K (sTryA io n F m ie im tbl) D σ H):tTryA io (spX K mg n F) (tQL K m) K cD ok ie im D σ H:=by
  obtain ⟨B,ρ,O,fp,o,R,hg,k⟩:=q
  obtain ⟨⟨rs,ρ1⟩,h1,hg⟩:=bind_some hg
  obtain ⟨ss,h2,hg⟩:=bind_some hg
  split at hg
  · rename_i hn
    obtain ⟨r,h3,hg⟩:=bind_some hg
    refine ⟨B,ρ,O,fp,rs,ρ1,R,h1,fun vs H1 O1 fp1 R1 k1 F1=>⟨ss,r,hn,ResL.rd R1 k1 h2,h3,?_⟩⟩
    cases r with
    | v s0=>
      obtain ⟨t,h4,hg2⟩:=bind_some hg
      have hg':putR io t ρ1=some o:=hg2
      clear hg hg2
      obtain ⟨rfl,hf⟩:=fresh_of h4
      cases io with
      | none=>
        cases hg'
        exact R1.good (fun v H' O' R' k' F'=>k _ H' O' _ R' (F1.trans F')) hf
      | some i=>
        have hg':(if i < ρ1.length then some (Out.nx (ρ1.set i (some t))) else none)=some o:=hg'
        by_cases hi:i < ρ1.length
        · rw [if_pos hi] at hg'
          cases hg'
          refine R1.good (fun v H' O' R' k' F'=>?_) hf
          obtain ⟨g,hs,nd,hfl⟩:=k'
          exact k _ H' O' _ (R'.set hs nd (fun a ha=>(hfl a ha).1) hi) (F1.trans (F'.set i fun a ha=>(hfl a ha).2))
        · rw [if_neg hi] at hg'; cases hg'
    | x c=>
      obtain ⟨bs,h4,hg2⟩:=bind_some hg
      have hg':(if im < ρ1.length∧ie≠im∧isNo ρ1 ie=true then some (Out.nx (ρ1.set im (some (.own (bs.map .bl))))) else none)=some o:=hg2
      clear hg hg2
      by_cases hc:im < ρ1.length∧ie≠im∧isNo ρ1 ie=true
      · rw [if_pos hc] at hg'
        cases hg'
        obtain ⟨hi,hne,hno⟩:=hc
        have hno:=isNo_of hno
        intro C H' hm sm
        obtain ⟨h5,Ca,h6,h7⟩:=ht c C bs h4 hm
        refine ⟨h5,Ca,bs,h6,h7,fun a q hq=>?_⟩
        have R2:Rel K B ρ1 (σ.set ie (some (.ref a))) H' O1 fp1:=rel_any (R1.grow sm) _ fun s z=>by rw [hno] at z; cases z
        have G:Good K H' (.own (bs.map .bl)) (fun v H2=>D.nx (((σ.set ie (some (.ref a))).set im (some v)).set ie none) H2):=by
          refine R2.good (fun v H2 O2 R3 k' F'=>?_) True.intro
          obtain ⟨g,hs,nd,hfl⟩:=k'
          refine k _ H2 O2 _ (rel_any (R3.set hs nd (fun a ha=>(hfl a ha).1) hi) none fun s z=>?_) ((F1.trans (Fr.grow R1 sm)).trans (F'.set im fun a ha=>(hfl a ha).2))
          rw [List.getElem?_set_ne hne.symm,hno] at z
          cases z
        refine G q _ _ (fun b o hb=>?_) hq ?_ (isl_bls bs)
        · have nb:b≠q:=fun z=>by rw [z,hq] at hb; cases hb
          simp [upd,nb,hb]
        · simp [upd]
      · rw [if_neg hc] at hg'; cases hg'
  · cases hg
section
variable {X:Cx}{i k n ie im:Nat}{y x xc ne mk:Str}{py p pos pa np hpos tpos pm lp ap:Pos}{ea:Expr}{es ms:List Expr}{m:M (List R)}{F:List Slot→Option ResX}{tbl:Str→Option (List Bool)}{cD:Value}
theorem qs_tryE (C:CalX X.prog X.w X.K X.mg X.base k x n F)(hr:Room k X.A)(hg:Gl X x)(ha:QA X (ea::es) m)
    (hN:X.N.Nodup) (hx0:∀ e s,X.xe e s→False) (hst:X.stack=X.env::X.outer) (hfr:X.env.frame=some X.env.locals) (hgc:Gl X xc) (hmc:X.mg xc=some cD)
    (hie:X.N[ie]?=some ne) (hke:X.env.scope.names.lookup ne=some .local) (him:X.N[im]?=some mk) (hkm:X.env.scope.names.lookup mk=some .local)
    (ht:∀ c C bs,tbl c=some bs→X.mg c=some C→PySem.W.exmOne X.K C cD=some true∧∃ Ca,C=.ref Ca∧okIs X ie ms Ca bs)
    (hdb:(x == ("__debug__" : Str))=false:=by decide) (hdc:(xc == ("__debug__" : Str))=false:=by decide) (he:starEach (ea::es) X.env=(false,eval ea X.env)::starEach es X.env:=by rfl) (hpl:(backTo pos (starEach es X.env)).any (·.1)=false:=by rfl)
    (hsw:swapsWith (.Call (.Name x p) (ea::es) [] pos) none pa.line X.env=pure false:=by rfl) (hsm:swapsWith (.List ms lp) (some (.Name mk pm)) ap.line X.env=pure false:=by rfl):
    QS X (.Try [.Expr (.Call (.Name x p) (ea::es) [] pos) pa] [.ExceptHandler (some (.Name xc np)) (some ne) [.Assign [.Name mk pm] (.List ms lp) ap] hpos] [] [] tpos) (sTryA none n F m ie im tbl):=by
  obtain ⟨f,fd,ps,G,hb,hk,hm⟩:=C.ex
  exact (ps_tryE G hr hg hm hk hb ha hN hx0 hst hfr hgc hmc hie hke him hkm hdb hdc he hpl hsw hsm).imp fun D σ H q=>tryA_of ht q
end
noncomputable def tb0:Str→Option (List Bool):=fun _=>none
noncomputable def tbC (c1:Str)(bs:List Bool)(r:Str→Option (List Bool)):Str→Option (List Bool):=fun c=>if c == c1 then some bs else r c
noncomputable def TbOk (X:Cx)(ie:Nat)(ms:List Expr)(cD:Value)(tbl:Str→Option (List Bool)):Prop:=∀ c C bs,tbl c=some bs→X.mg c=some C→PySem.W.exmOne X.K C cD=some true∧∃ Ca,C=.ref Ca∧okIs X ie ms Ca bs
theorem tb_nil {X:Cx}{ie:Nat}{ms:List Expr}{cD:Value}:TbOk X ie ms cD tb0:=fun _ _ _ h=>nomatch h
theorem tb_cons {X:Cx}{ie:Nat}{ms:List Expr}{cD:Value}{c1:Str}{C1:Addr}{bs:List Bool}{r:Str→Option (List Bool)}(b1:X.mg c1=some (.ref C1))(e1:PySem.W.exmOne X.K (.ref C1) cD=some true)(h:IsXs X ie C1 ms bs)(hl:bs.length≤1000)(hr:TbOk X ie ms cD r):
    TbOk X ie ms cD (tbC c1 bs r):=fun c C bs' q hm=>by
  have q':(if c == c1 then some bs else r c)=some bs':=q
  by_cases z:(c == c1)=true
  · rw [if_pos z] at q'
    cases q'
    rw [beq_iff_eq] at z
    subst z
    rw [b1] at hm; cases hm
    exact ⟨e1,C1,rfl,h,hl⟩
  · rw [if_neg z] at q'
    exact hr c C bs' q' hm
theorem boot_ValueError:bootBuiltins "ValueError" = some (.type "ValueError"):=by decide +kernel
end Mi
namespace Mi
open PySem L2
open PySem.Spec
variable {K:PySem.W.Frag}{H H':Hp}{O O':Addr→Prop}{fp fp':Nat→List Addr}{B:Hp}{ρ ρ':En}{σ:L2.St}
section
variable {X:Cx}{a b c:Expr}{f g h:M R}{pos p:Pos}{x:Str}
theorem q_cst {n:Int}{t:Tok}(hg:Gl X x)(hm:X.mg x=some (.int n t))(hd:(x == ("__debug__" : Str))=false:=by decide):QE X (.Name x p) (mC (.int n)):=q_c (pe_glob (v:=.int n) hg hm ⟨t,rfl⟩ hd) fun _=>rfl
noncomputable def intR:R→Option Int
  | .of (.val (.int i))=>some i
  | _=>none
theorem intR_of {x:R}{i:Int}(h:intR x=some i):x=.of (.val (.int i)):=by
  unfold intR at h
  split at h
  · cases h; rfl
  · cases h
end
noncomputable def newR:R→Option Slot
  | .of s=>fresh s
  | _=>none
theorem newR_of {r:R}{s:Slot}(h:newR r=some s):r=.of s:=by
  cases r with
  | of t=>obtain ⟨rfl,_⟩:=fresh_of h; rfl
  | bor i=>cases h
noncomputable def mPick (m:M (List R))(f:M R):M R:=fun ρ=>(m ρ).bind fun x=>if x.1.length < big then (f x.2).bind fun y=>(intR y.1).bind fun k=>(atI x.1 k).bind fun r=>(newR r).bind fun s=>some (.of s,y.2) else none
theorem ResL.get {Z:Addr→Prop}:∀ {rs:List R} {vs:List V} {j:Nat} {r:R},ResL K H O fp σ Z rs vs→rs[j]?=some r→∃ v,vs[j]?=some v∧ResOk K H O fp σ Z r v
  | [],_,_,_,_,e=>by simp at e
  | _::_,_,0,_,h,e=>by
    obtain ⟨v,us,rfl,h1,h2⟩:=h
    simp at e; subst e
    exact ⟨v,rfl,h1⟩
  | _::_,_,j+1,_,h,e=>by
    obtain ⟨v,us,rfl,h1,h2⟩:=h
    obtain ⟨w,g1,g2⟩:=ResL.get (j:=j) h2 (by simpa using e)
    exact ⟨w,by simpa using g1,g2⟩
theorem ResL.len {Z:Addr→Prop}:∀ {rs:List R} {vs:List V},ResL K H O fp σ Z rs vs→vs.length=rs.length
  | [],_,h=>by have h':_=[]:=h; subst h'; rfl
  | _::_,_,h=>by
    obtain ⟨v,us,rfl,h1,h2⟩:=h
    rw [List.length_cons,List.length_cons,ResL.len h2]
section
variable {X:Cx}{e a b c:Expr}{es:List Expr}{f g:M R}{m:M (List R)}{pos p p2:Pos}
theorem q_pick (ha:QA X es m)(hb:QE X b f)(hs:PlainIx b):QE X (.Subscript (.List es p2) b pos) (mPick m f):=
  (pe_ix ix_list (pe_lst ha) hb hs).imp fun σ H Q zq=>by
    obtain ⟨B,ρ,O,fp,x,ρ',R,hf,k⟩:=zq
    obtain ⟨⟨rs,ρ1⟩,q1,hf1⟩:=bind_some hf
    dsimp only at hf1
    split at hf1
    · rename_i hz
      obtain ⟨⟨y,ρ2⟩,q2,hf2⟩:=bind_some hf1
      obtain ⟨kk,q3,hf3⟩:=bind_some hf2
      obtain ⟨r,q4,hf4⟩:=bind_some hf3
      obtain ⟨s,q5,hf5⟩:=bind_some hf4
      clear hf hf1 hf2 hf3 hf4
      cases intR_of q3
      cases newR_of q5
      cases hf5
      refine ⟨B,ρ,O,fp,rs,ρ1,R,q1,fun vs H1 O1 fp1 R1 k1 F1=>⟨by rw [k1.len]; exact Nat.le_of_lt (big_line hz),fun q hq=>?_⟩⟩
      have sm:=same_new hq (.lst vs)
      refine ⟨B,ρ1,O1,fp1,_,ρ2,R1.grow sm,q2,fun u H2 O2 fp2 R2 k2 F2=>?_⟩
      obtain ⟨_,⟨eu,_⟩,_⟩:=k2
      have eu:u=.int kk:=eu
      have nq:¬ O1 q:=fun z=>(R1.lst q z).ne hq
      have hq2:=F2.keep q _ upd_same nq
      obtain ⟨j,g1,g2⟩:=bind_some q4
      have F12:=(Fr.grow R1 sm).trans F2
      obtain ⟨v,g3,g4⟩:=k1.get g2
      refine ⟨q,vs,kk,v,rfl,eu,SqL.of hq2,?_,k v H2 O2 fp2 R2 (g4.fr F12 R1.lst) (F1.trans F12)⟩
      unfold atI
      rw [k1.len,g1]
      exact g3
    · cases hf1
end
end Mi
namespace Mi
open PySem L2
open PySem.Spec
variable {K:PySem.W.Frag}{H H':Hp}{O O':Addr→Prop}{fp fp':Nat→List Addr}{B:Hp}{ρ ρ':En}{σ:L2.St}
section
variable {X:Cx}{it ic ir tx k k2:Nat}{nt nc nr nx fr wh:Str}{F:List Slot→Option (D×List D)}{W:List Slot→Option Slot}{j1 j2 j3 j4 j5:Nat}
  {p1 p2 p3 p4 p5 p6 p7 p8 p9 p10 p11 p12 p13 p14 p15 p16 p17 p18 p19 p20 p21 p22 p23 p24 p25 p26 p27 p28 p29 p30 p31 p32 p33 p34 p35 p36 p37 p38 p39 p40 p41:Pos}
end
section
variable {X:Cx}{it ic ir tx k k2:Nat}{nt nc nr nx fr wh:Str}{F:List Slot→Option (D×List D)}{W:List Slot→Option Slot}{j1 j2 j3 j4 j5:Nat}
  {p1 p2 p3 p4 p5 p6 p7 p8 p9 p10 p11 p12 p13 p14 p15 p16 p17 p18 p19 p20 p21 p22 p23 p24 p25 p26 p27 p28 p29 p30 p31 p32 p33 p34 p35 p36 p37 p38 p39 p40 p41:Pos}
end
end Mi
namespace Mi
open PySem L2
open PySem.Spec
variable {K:PySem.W.Frag}{H H':Hp}{O O':Addr→Prop}{fp fp':Nat→List Addr}{B:Hp}{ρ ρ':En}{σ:L2.St}
noncomputable def Tr (h G:Heap)(e:Addr)(C a0:Value)(x2:Option Value)(fl:Value):Prop:=
  ∃ oe vs T oT ts,h.get? e=some oe∧(oe.cls=C∧vs[0]?=some a0)∧oe.data=.fields vs∧vs[1]?=some (.ref T)∧G.get? T=none∧T≠e∧h.get? T=some oT∧oT.data=.fields ts∧ts[3]?=some fl∧vs[2]?=x2
structure Fly (G:Heap)(l:List PySem.Env)(e:Addr)(C a0:Value)(x2:Option Value)(fl:Value)(h:Heap):Prop where
  stays:G.StaysIn h
  new:G.get? e=none
  frames:h.FunFrames G l
  tr:Tr h G e C a0 x2 fl
section
variable {M:Model}{A:Around}{E:Value→Shared→Prop}{s:Shared}{G:Heap}{env:PySem.Env}{outer l:List PySem.Env}{L e:Addr}{C a0 fl:Value}{x2:Option Value}
theorem Fly.of {h:Heap}(f:Heap.FlyingW G l e C a0 h):∃ x2,Fly G l e C a0 x2 .none h:=by
  obtain ⟨f1,f2,f3,oe,vs,T,oT,ts,h1,h2,h3,h4,h5,h6,h7,h8,h9⟩:=f
  exact ⟨vs[2]?,f1,f2,f3,oe,vs,T,oT,ts,h1,h2,h3,h4,h5,h6,h7,h8,h9,rfl⟩
theorem Fly.to {h:Heap}(f:Fly G l e C a0 x2 .none h):Heap.FlyingW G l e C a0 h:=by
  obtain ⟨f1,f2,f3,oe,vs,T,oT,ts,h1,h2,h3,h4,h5,h6,h7,h8,h9,_⟩:=f
  exact ⟨f1,f2,f3,oe,vs,T,oT,ts,h1,h2,h3,h4,h5,h6,h7,h8,h9⟩
theorem entry {oe:Obj}{vs:Array Value}{head:Value}{hadNext:Bool}{Q:Unit→Shared→Prop}(hfr:A.frames=some (env::outer))(hl:s.heap.FunFrames G (env::outer))(hf:env.frame=some L)
    (he:s.heap.get? e=some oe) (hk:G.StaysIn s.heap) (hn:G.get? e=none) (hd:oe.data=.fields vs) (hc:oe.cls=C) (h0:vs[0]?=some a0) (h1:1 < vs.size) (h2:vs[2]?=x2)
    (h:∀ h',Fly G (env::outer) e C a0 x2 (rawInt L) h'→s.heap.UpToSlots h'→Q () { s with heap:=h' }):
    wpAny M A (do let a ←frameOf env; let pl ←entryPlaceOf L hadNext; let b ←EntryCells.newEntry head a .none (rawInt L) .none pl; setField (.ref e) 1 b) Q E s:=by
  have ne:e∉(env::outer).filterMap (·.frame):=fun hm=>by
    obtain ⟨_,o,ho,hnf⟩:=hl.mem hm
    rw [he] at ho
    cases ho
    exact hnf vs hd
  refine wpAny_bind (wpAny_frameOf_fun hfr hl hf fun h₁ hs₁=>?_)
  refine wpAny_bind (wpAny_entryPlaceOf fun pl hpl=>?_)
  unfold EntryCells.newEntry newFields
  refine wpAny_bind (wpAny_newObj_type ?_ (hpl.sizeOk5 _ _ _ _ _))
  generalize hob:({ cls:=.type "traceback",dict:=none,data:=.fields ([head,.ref L,.none,rawInt L,.none]++(if pl.isEmpty then List.replicate 6 Value.none else pl)).toArray }:Obj)=tb
  have e1:h₁.get? e=some oe:=(hs₁.2.1 e ne).trans he
  have k1:G.StaysIn h₁:=fun b o hb=>(hs₁.2.1 b fun hm=>by rw [(hl.mem hm).1] at hb; cases hb).trans (hk b o hb)
  have e2:=Heap.get?_push_of_some (h:=h₁) tb e1
  have hT:h₁.objs.size≠e:=Nat.ne_of_gt (Heap.lt_size e1)
  refine wpAny_setField e2 hd h1 (h _ ?_ ?_)
  · have d3:=Obj.data_mapFields hd (·.setIfInBounds 1 (Value.ref h₁.objs.size))
    have e3:=Heap.get?_update_self (Obj.mapFields (·.setIfInBounds 1 (Value.ref h₁.objs.size))) e2 (Obj.isFreed_of_fields d3)
    have t3:((h₁.push tb).update e (Obj.mapFields (·.setIfInBounds 1 (Value.ref h₁.objs.size)))).get? h₁.objs.size=some tb:=(Heap.get?_update_other _ _ (Ne.symm hT)).trans (Heap.get?_push_size h₁ (by rw [←hob]; rfl))
    refine ⟨fun b o hb=>?_,hn,hl.of_keeps fun b o hb hnf=>?_,?_⟩
    · rw [Heap.get?_update_other _ _ fun z=>by rw [z,hb] at hn; cases hn]
      exact Heap.get?_push_of_some _ (k1 b o hb)
    · obtain ⟨sl,hs⟩:=hs₁.2.2 b o hb
      refine ⟨_,(Heap.get?_update_other _ _ fun z=>?_).trans (Heap.get?_push_of_some _ hs),rfl⟩
      rw [←z,he] at hb; cases hb
      exact hnf vs hd
    · refine ⟨_,_,h₁.objs.size,_,_,e3,⟨(Obj.cls_mapFields _ _).trans hc,?_⟩,d3,?_,k1.fresh,hT,t3,by rw [←hob],?_,?_⟩
      · rw [Array.getElem?_setIfInBounds_ne (by decide)]; exact h0
      · simp [h1]
      · first
          | (simp; done)
          | (rcases hpl with rfl | ⟨_,_,_,_,_,_,_,rfl⟩<;>simp)
      · rw [Array.getElem?_setIfInBounds_ne (by decide)]; exact h2
  · intro b o hb hnf
    obtain ⟨sl,hs⟩:=hs₁.2.2 b o hb
    refine ⟨sl,(Heap.get?_update_other _ _ fun z=>?_).trans (Heap.get?_push_of_some _ hs)⟩
    rw [←z,he] at hb; cases hb
    exact hnf vs hd
theorem flight {f:Option Addr}{Q:Unit→Shared→Prop}(x:Fly G l e C a0 x2 fl s.heap)(h:∀ h',Fly G l e C a0 x2 (f.elim .none fun f=>rawInt f) h'→s.heap.UpToSlots h'→Q () { s with heap:=h' }):wpAny M A (setFlight (.ref e) f) Q E s:=by
  obtain ⟨f1,f2,f3,oe,vs,T,oT,ts,h1,h2,h3,h4,h5,h6,h7,h8,h9,h10⟩:=x
  have sz:3 < ts.size:=(Array.getElem?_eq_some_iff.mp h9).1
  unfold setFlight
  refine wpAny_bind (wpAny_field h1 h3 h4 ?_)
  rw [if_pos (show (Value.ref T != Value.none)=true from by simp)]
  have other:∀ b,b≠T→(s.heap.update T (Obj.mapFields (·.setIfInBounds 3 (f.elim Value.none fun f=>rawInt f)))).get? b=s.heap.get? b:=fun b hb=>Heap.get?_update_other _ _ (Ne.symm hb)
  have nf:∀ b o,s.heap.get? b=some o→(∀ vs,o.data≠.fields vs)→b≠T:=fun b o hb hnf q=>by
    rw [q,h7] at hb; cases hb
    exact hnf ts h8
  refine wpAny_setField h7 h8 sz (h _ ⟨fun b o hb=>(other b fun q=>by rw [q,h5] at hb; cases hb).trans (f1 b o hb),f2,f3.of_keeps fun b o hb hn=>⟨o,(other b (nf b o hb hn)).trans hb,rfl⟩,?_⟩ fun b o hb hn=>⟨o.slots,(other b (nf b o hb hn)).trans hb⟩)
  exact ⟨oe,vs,T,_,_,(other e (Ne.symm h6)).trans h1,h2,h3,h4,h5,h6,Heap.get?_update_self _ h7 (Obj.isFreed_of_fields (Obj.data_mapFields h8 _)),Obj.data_mapFields h8 _,by simp [sz],h10⟩
theorem note {Q:Unit→Shared→Prop}(hfr:A.frames=some (env::outer))(hf:env.frame=some L)(x:Fly G (env::outer) e C a0 x2 fl s.heap)
    (h:∀ h',Fly G (env::outer) e C a0 x2 (rawInt L) h'→s.heap.UpToSlots h'→Q () { s with heap:=h' }):wpAny M A (noteFrame (.ref e) env) Q E s:=by
  obtain ⟨f1,f2,f3,oe,vs,T,oT,ts,h1,h2,h3,h4,h5,h6,h7,h8,h9,h10⟩:=id x
  have sz:3 < ts.size:=(Array.getElem?_eq_some_iff.mp h9).1
  unfold noteFrame
  simp only [hf]
  refine wpAny_bind (wpAny_field h1 h3 h4 ?_)
  rw [if_pos (show (Value.ref T != Value.none)=true from by simp)]
  refine wpAny_bind (wpAny_field h7 h8 h9 ?_)
  by_cases z:(fl == rawInt L)=true
  · rw [if_pos z]
    have z':fl=rawInt L:=by simpa using z
    subst z'
    exact wpAny_pure (h _ x (Heap.UpToSlots.refl _))
  · rw [if_neg z]
    have other:∀ b,b≠T→(s.heap.update T (Obj.mapFields (·.setIfInBounds 3 Value.none))).get? b=s.heap.get? b:=fun b hb=>Heap.get?_update_other _ _ (Ne.symm hb)
    have nf:∀ b o,s.heap.get? b=some o→(∀ vs,o.data≠.fields vs)→b≠T:=fun b o hb hnf q=>by
      rw [q,h7] at hb; cases hb
      exact hnf ts h8
    refine wpAny_bind (wpAny_setField h7 h8 sz ?_)
    refine entry hfr (f3.of_keeps fun b o hb hn=>⟨o,(other b (nf b o hb hn)).trans hb,rfl⟩) hf ((other e (Ne.symm h6)).trans h1) (fun b o hb=>(other b fun q=>by rw [q,h5] at hb; cases hb).trans (f1 b o hb)) f2 h3 h2.1 h2.2 (Array.getElem?_eq_some_iff.mp h4).1 h10 fun h' x' up=>h h' x' ?_
    exact Heap.UpToSlots.trans (fun b o hb hn=>⟨o.slots,(other b (nf b o hb hn)).trans hb⟩) up
theorem Fly.drop {h:Heap}(x:Fly G (env::outer) e C a0 x2 fl h):Fly G outer e C a0 x2 fl h:=⟨x.stays,x.new,x.frames.2.2,x.tr⟩
theorem leave {Q:Unit→Shared→Prop}(hfr:A.frames=some (env::outer))(hf:env.frame=some L)(x:Fly G (env::outer) e C a0 x2 fl s.heap)
    (h:∀ h',Fly G outer e C a0 x2 .none h'→s.heap.UpToSlots h'→Q () { s with heap:=h' }):wpAny M A (leaving env (.ref e)) Q E s:=by
  unfold leaving
  refine wpAny_bind (note hfr hf x fun h1 x1 u1=>flight (s:={ s with heap:=h1 }) (f:=none) x1 fun h2 x2 u2=>h h2 x2.drop (u1.trans u2))
end
noncomputable def Lands (X:Cx)(E:XK):Prop:=∀ (pins:List (Addr×Obj)) (σ:L2.St) (H:Hp) (s:Shared) (e:Addr) (C a0:Value) (x2:Option Value) (fl:Value) (G:Heap),Inv X pins σ H s→Fly G X.stack e C a0 x2 fl s.heap→
  (∀ b o,X.s₀.heap.get? b=some o→b∉X.fs→X.H₀ b=none→b∉X.ex→G.get? b=some o)→(∀ b o,X.s₀.heap.get? b=some o→b∉X.fs→b∉X.ex→∃ o',G.get? b=some o')→(∀ b u,H b=some u→∃ o,G.get? b=some o)→H e=none→E C none H→X.xe (.ref e) s
noncomputable def LandsW (X:Cx)(E:XK):Prop:=∀ (H:Hp) (s:Shared) (e:Addr) (C a0:Value) (x2:Option Value) (fl:Value) (G:Heap),X.Ok→s.os=X.s₀.os→PyProof.Rows.AllBare s.gens→Un X.fs X.ex X.H₀ H X.s₀.heap s.heap→HOk X.prog X.w H s.heap→Fly G X.stack e C a0 x2 fl s.heap→
  (∀ b o,X.s₀.heap.get? b=some o→b∉X.fs→X.H₀ b=none→b∉X.ex→G.get? b=some o)→(∀ b o,X.s₀.heap.get? b=some o→b∉X.fs→b∉X.ex→∃ o',G.get? b=some o')→(∀ b u,H b=some u→∃ o,G.get? b=some o)→H e=none→E C none H→X.xe (.ref e) s
theorem LandsW.s {X:Cx}{E:XK}(L:LandsW X E):Lands X E:=fun pins σ H s e C a0 x2 fl G I x c1 c2 c3 hn hE=>L H s e C a0 x2 fl G I.ok I.os I.bare I.base I.hok x c1 c2 c3 hn hE
theorem old_ne {X:Cx}(ok:X.Ok){b:Addr}{o:Obj}(q:X.s₀.heap.get? b=some o)(hb:b∉X.fs):b∉frs X.stack:=by
  rcases ok.stk with e | ⟨e,ef⟩
  · rw [e]; exact hb
  · rw [e]
    intro z
    have z':b∈(X.env::X.outer).filterMap (·.frame):=z
    rw [List.filterMap_cons_some ef] at z'
    rcases List.mem_cons.mp z' with rfl | z'
    · exact absurd (Heap.lt_size q) (Nat.not_lt.mpr ok.above)
    · exact hb z'
theorem Lands.passes {X:Cx}{E:XK}(L:Lands X E):Passes (CX1 X.prog X.w) X E:=fun pins σ H1 s1 e s' I c=>by
  obtain ⟨a,C,a0,H2,G,rfl,hos,hb,un,hok,fl,c1,c2,c3,hn,hE0⟩:=c
  obtain ⟨x2,f⟩:=Fly.of fl
  have I2:Inv X pins σ H2 { s' with heap:=s'.heap,toks:=s'.toks }:=inv_land I hos hb un hok c1 c2 c3 fl.1 fl.1 (Heap.UpToSlots.refl _) s'.toks
  refine L pins σ H2 s' a C a0 x2 .none G I2 f (fun b o q hb n hx=>?_) (fun b o q hb hx=>?_) c3 hn hE0
  · exact c1 b o (I.base.keep b o q n hb hx) (old_ne I.ok q hb) (I.base.free b o q n hx)
  · obtain ⟨o',q1⟩:=I.base.there b o q hx
    exact c2 b o' q1 (old_ne I.ok q hb)
theorem hok_land {P:Program}{w:World}{G h h':Heap}(hok:HOk P w H h)(g1:G.StaysIn h)(g2:G.StaysIn h')(c3:∀ b u,H b=some u→∃ o,G.get? b=some o):HOk P w H h':=fun b u q=>by
  refine (hok b u q).stay (fun c uc hc qc=>?_) (fun _ z=>z) fun _ _ z=>z
  have tc:∃ v,H c=some v:=by
    rcases hc with rfl | hc
    · exact ⟨u,q⟩
    · exact ⟨_,hc⟩
  obtain ⟨v,tc⟩:=tc
  obtain ⟨o,q1⟩:=c3 c v tc
  have:=g1 c o q1
  rw [qc] at this; cases this
  exact g2 c uc q1
section
variable {P:Program}{w:World}{K:PySem.W.Frag}{mg:Str→Option Value}{base:Heap}{N:List Str}{qual:Str}{scope:Scope}{f:Addr}{cd:Value}{A:Around}{outer:List PySem.Env}{s₀:Shared}{H₀:Hp}{E:XK}
theorem lands_cx:LandsW (cxOf (CX1 P w) P w K mg base N qual scope f cd A outer s₀ H₀ E) E:=fun H s e C a0 x2 fl G ok ios ibare ibase ihok x c1 c2 c3 hn hE=>by
  have hst:s.heap.FunFrames G (PyProof.Rows.envOfC qual scope s₀.heap.objs.size f cd::outer):=x.frames
  have hfr:(A.deeper (PyProof.Rows.envOfC qual scope s₀.heap.objs.size f cd)).frames=some (PyProof.Rows.envOfC qual scope s₀.heap.objs.size f cd::outer):=ok.frames
  have b0:Un (frs outer) [] H₀ H s₀.heap s.heap:=ibase
  show wpAny _ _ (leaving _ _) _ _ _
  refine leave hfr rfl x fun h' x' up=>?_
  have slots:∀ b∈frs outer,∀ o,s.heap.get? b=some o→∃ sl,h'.get? b=some { o with slots:=sl }:=fun b hb o q=>by
    obtain ⟨_,o',ho',hd⟩:=hst.mem (b:=b) (List.mem_cons_of_mem _ hb)
    rw [q] at ho'; cases ho'
    exact up b o q hd
  refine ⟨e,C,a0,H,G,rfl,ios,ibare,⟨fun b o q n hb hx=>x'.stays b o (c1 b o q hb n (by simp [cxOf])),fun b o q n hb hx=>?_,fun b o q n hx=>b0.free b o q n hx,fun b o q hx=>?_,b0.tups,b0.frzs,b0.tbls⟩,hok_land ihok x.stays x'.stays c3,x'.to,fun b o q n1 n2=>c1 b o q n1 n2 (by simp [cxOf]),fun b o q n1=>c2 b o q n1 (by simp [cxOf]),c3,hn,hE⟩
  · obtain ⟨sl,q1⟩:=b0.slot b o q n hb hx
    obtain ⟨sl2,q2⟩:=slots b hb _ q1
    exact ⟨sl2,q2⟩
  · by_cases hb:b∈frs outer
    · obtain ⟨o',q1⟩:=b0.there b o q hx
      obtain ⟨sl,q2⟩:=slots b hb o' q1
      exact ⟨_,q2⟩
    · obtain ⟨o',q1⟩:=c2 b o q hb (by simp [cxOf])
      exact ⟨o',x'.stays b o' q1⟩
end
noncomputable abbrev xkOf (mg:Str→Option Value)(W:Str→Hp→Prop):XK:=fun C _ H=>∃ c,mg c=some C∧W c H
theorem fn_okY {P:Program}{w:World}{K:PySem.W.Frag}{mg:Str→Option Value}{base:Heap}{x qual:Str}{st:Stmt}{f:Addr}{fd:FuncData}{N ps:List Str}{k:Nat}{g:MX}(F:Fun K x qual st f fd)(S:FnScope N ps (defScope st))
    (hbody:∀ (cdv:Value) (A:Around) (outer:List PySem.Env) (s:Shared) (H:Hp) (E:XK) (W:Str→Hp→Prop),Room k (A.deeper (PyProof.Rows.envOfC qual (defScope st) s.heap.objs.size f cdv))→
      Raiser (cxOf (CX1 P w) P w K mg base N qual (defScope st) f cdv A outer s H E) W→
      PassesOwn (model P w) (cxOf (CX1 P w) P w K mg base N qual (defScope st) f cdv A outer s H E).A (cxOf (CX1 P w) P w K mg base N qual (defScope st) f cdv A outer s H E).env (cxOf (CX1 P w) P w K mg base N qual (defScope st) f cdv A outer s H E).xe→
      LandsW (cxOf (CX1 P w) P w K mg base N qual (defScope st) f cdv A outer s H E) (xkOf mg W)→
      QXs (cxOf (CX1 P w) P w K mg base N qual (defScope st) f cdv A outer s H E) W (defBody st) g):FnOk P w K mg base (CX1 P w) (k+1) f fd ps (spX K mg ps.length (runX ps.length N.length g)):=by
  obtain ⟨oc,od,kV,doc,pm,an,cdv,ct,osl,rfl,lk,hcd⟩:=F.ex
  refine fn_of lk hcd S (fun vs H Q E h=>?_) fun A outer s H vs Q E hr h=>?_
  · obtain ⟨ss,t,e,r,_⟩:=h
    rw [r.length,e]
  · obtain ⟨ss,t,e,r,hF,G⟩:=h
    refine ⟨_,hbody cdv A outer s H E (fun c H'=>∀ C,mg c=some C→E C none H') hr (fun pins σ H s h' e c C args I hm hx hw=>raise_out I hx (hw C hm)) PassesOwn.leaving (fun H s e C a0 x2 fl G ok i1 i2 i3 i4 x c1 c2 c3 hn ⟨c,hm,hE⟩=>lands_cx H s e C a0 x2 fl G ok i1 i2 i3 i4 x c1 c2 c3 hn (hE C hm)),?_⟩
    unfold runX at hF
    rw [if_pos e] at hF
    obtain ⟨o,h1,hF⟩:=bind_some hF
    have R0:=start_rel (N:=N) r
    rw [e] at R0
    refine ⟨H,_,O0,fun _=>[],o,R0,h1,?_⟩
    cases o with
    | ex c=>
      cases hF
      exact fun ρ' σ' H' O' fp' R' C hm=>G C H' hm R'.keep
    | o x=>
      cases x with
      | nx ρ'=>
        cases hF
        exact fun σ' H' O' fp' R' F'=>G .non H' R'.keep rfl
      | bk ρ'=>cases hF
      | ct ρ'=>cases hF
      | rt s'=>
        obtain ⟨t',hF',hF⟩:=bind_some hF
        cases hF
        obtain ⟨rfl,hn⟩:=fresh_of hF'
        intro ρ' σ' v H' O' fp' R' k'
        obtain ⟨f,hs,nd,hf⟩:=k'
        cases t' with
        | val d=>exact G v H' R'.keep hs.1
        | fz d=>exact hn.elim
        | fz2 d=>exact hn.elim
        | own ds=>
          obtain ⟨p,vs',rfl,h2,h3,rfl⟩:=hs
          exact G p vs' H' R'.keep (R'.new p (hf p (by simp)).1.1) h2 h3
        | own2 dss=>
          obtain ⟨p,qs,rfl,h2,h3,rfl⟩:=hs
          exact G p qs H' R'.keep (fun a ha=>R'.new a (hf a ha).1.1) nd h2 h3
        | any=>exact hn.elim
        | dct m=>
          obtain ⟨p,rfl,h2,rfl⟩:=hs
          exact G p H' R'.keep (R'.new p (hf p (by simp)).1.1) h2
inductive RX where
  | v (r:R) (ρ:En) | x (c:Str)
noncomputable abbrev MXE:=En→Option RX
inductive tQE (K:PySem.W.Frag)(W:Str→Hp→Prop)(f:MXE)(σ:L2.St)(H:Hp)(Q:VK):Prop
  | mk:∀ B ρ O fp o,(Rel K B ρ σ H O fp)→(f ρ=some o)→(match o with
  | .v r ρ'=>∀ v H' O' fp',Rel K B ρ' σ H' O' fp'→ResOk K H' O' fp' σ (fl O fp) r v→Fr H O fp H' O' fp'→Q v H'
  | .x c=>∀ ρ' σ' H' O' fp',Rel K B ρ' σ' H' O' fp'→W c H')→tQE K W f σ H Q
noncomputable abbrev QEX (X:Cx)(W:Str→Hp→Prop)(e:Expr)(f:MXE):Prop:=PE X e (tQE X.K W f)
noncomputable def mCallX (n:Nat)(F:List Slot→Option ResX)(m:M (List R)):MXE:=fun ρ=>(m ρ).bind fun x=>(drs x.2 x.1).bind fun ss=>if ss.length=n then (F ss).bind fun r=>match r with
    | .v s=>(fresh s).bind fun t=>some (.v (.of t) x.2)
    | .x c=>some (.x c)
  else none
section
variable {X:Cx}{W:Str→Hp→Prop}{e:Expr}{es:List Expr}{pos p:Pos}{k n:Nat}{x:Str}{F:List Slot→Option ResX}{m:M (List R)}
theorem qe_callX (L:Lands X (xkOf X.mg W))(C:CalX X.prog X.w X.K X.mg X.base k x n F)(hr:Room k X.A)(hg:Gl X x)(ha:QA X (e::es) m)
    (hdb:(x == ("__debug__" : Str))=false:=by decide) (he:starEach (e::es) X.env=(false,eval e X.env)::starEach es X.env:=by rfl) (hpl:(backTo pos (starEach es X.env)).any (·.1)=false:=by rfl):
    QEX X W (.Call (.Name x p) (e::es) [] pos) (mCallX n F m):=by
  obtain ⟨f,fd,ps,G,hb,hk,hm⟩:=C.ex
  refine (pe_call G hr hg hm hk hb .nil L.passes ha hdb he hpl).imp fun σ H Q h=>?_
  obtain ⟨B,ρ,O,fp,o,R,hf,k⟩:=h
  obtain ⟨⟨rs,ρ1⟩,h1,hf⟩:=bind_some hf
  obtain ⟨ss,h2,hf⟩:=bind_some hf
  split at hf
  · rename_i hn
    obtain ⟨r,h3,hf⟩:=bind_some hf
    refine ⟨B,ρ,O,fp,rs,ρ1,R,h1,fun vs H1 O1 fp1 R1 k1 F1=>?_⟩
    show spX X.K X.mg n F (vs++[]) H1 Q (xkOf X.mg W)
    rw [List.append_nil]
    refine ⟨ss,r,hn,ResL.rd R1 k1 h2,h3,?_⟩
    cases r with
    | v s0=>
      obtain ⟨t,h4,hf2⟩:=bind_some hf
      cases hf2
      obtain ⟨rfl,hfr⟩:=fresh_of h4
      exact R1.good (fun v H' O' R' k' F'=>k v H' O' _ R' (k'.back F1.fl) (F1.trans F')) hfr
    | x c=>
      cases hf
      intro C H' hm' sm
      exact ⟨c,hm',k _ _ _ _ _ (R1.grow sm)⟩
  · cases hf
end
noncomputable def xExpr (f:MXE):MX:=fun ρ=>(f ρ).bind fun o=>match o with
  | .v _ ρ'=>some (.o (.nx ρ'))
  | .x c=>some (.ex c)
end Mi
namespace Mi
open PySem L2
open PySem.Spec
variable {K:PySem.W.Frag}{H H':Hp}{O O':Addr→Prop}{fp fp':Nat→List Addr}{B:Hp}{ρ ρ':En}{σ:L2.St}
theorem tk_updE {p:Addr}{φ:Heap→Prop}{o:HO}(h:H p=some (.ext φ)):Tk H (L2.upd H p o):=by
  refine ⟨fun a xs q=>?_,fun a o u q=>?_,fun a xs q=>?_⟩
  · rw [upd_ne (ne_of q h (by intro z; cases z))]; exact q
  · rw [upd_ne (ne_of q h (by intro z; cases z))]; exact q
  · rw [upd_ne (ne_of q h (by intro z; cases z))]; exact q
theorem SlotOk.updE {s:Slot}{v:V}{f:List Addr}{p:Addr}{o':HO}(h:SlotOk K H O s v f)(t:Tk H (L2.upd H p o'))(op:O p)(nf:p∉f):SlotOk K (L2.upd H p o') O s v f:=by
  have ls:∀ {a:Addr} {ws:List V},LsA K H O a ws→LsA K (L2.upd H p o') O a ws:=fun {a ws} h=>by
    rcases h with ⟨h,n⟩ | ⟨o,h⟩ | h
    · have ne:a≠p:=fun z=>n (by rw [z]; exact op)
      exact .inl ⟨by rw [upd_ne ne]; exact h,n⟩
    · exact .inr (.inl ⟨o,t.frz _ _ _ h⟩)
    · exact .inr (.inr h)
  cases s with
  | val d=>exact ⟨h.1.tk t,h.2⟩
  | fz ds=>
    obtain ⟨⟨a,vs,e,h1,h2⟩,h3⟩:=h
    exact ⟨⟨a,vs,e,ls h1,h2.tk t⟩,h3⟩
  | fz2 dss=>
    obtain ⟨⟨a,vs,z,h1,h2⟩,h3⟩:=h
    refine ⟨⟨a,vs,z,ls h1,?_⟩,h3⟩
    have go:∀ {dss:List (List D)} {vs:List V},FzL K H O dss vs→FzL K (L2.upd H p o') O dss vs:=by
      intro dss
      induction dss with
      | nil=>intro vs h; exact h
      | cons ds dss ih=>
        intro vs h
        obtain ⟨a,us,r,e,h1,h2,h3⟩:=h
        exact ⟨a,us,r,e,ls h1,h2.tk t,ih h3⟩
    exact go h2
  | own ds=>
    obtain ⟨q,ws,z,h1,h2,rfl⟩:=h
    exact ⟨q,ws,z,by rw [upd_ne (fun z=>nf (by simp [z]))]; exact h1,h2.tk t,rfl⟩
  | own2 dss=>
    obtain ⟨q,qs,z,h1,h2,rfl⟩:=h
    exact ⟨q,qs,z,by rw [upd_ne (fun z=>nf (by simp [z]))]; exact h1,h2.eq t fun a ha=>upd_ne (fun z=>nf (by simp [←z,ha])),rfl⟩
  | any=>exact h
  | dct m=>
    obtain ⟨q,z,h1,rfl⟩:=h
    exact ⟨q,z,h1.tk t (upd_ne (fun z=>nf (by simp [z]))),rfl⟩
theorem Rel.updD (r:Rel K B ρ σ H O fp){i:Nat}{m m':DM}{p:Addr}{φ ψ:Heap→Prop}(hs:ρ[i]?=some (some (.dct m)))(hv:σ[i]?=some (some (.ref p)))(hp:H p=some (.ext φ))(hl:DcAt K (L2.upd H p (.ext ψ)) p m'):
    Rel K B (ρ.set i (some (.dct m'))) σ (L2.upd H p (.ext ψ)) O fp∧Fr H O fp (L2.upd H p (.ext ψ)) O fp:=by
  obtain ⟨v,e,q,e2,h1,ef⟩:=r.slot i _ hs
  rw [hv] at e; cases e; cases e2
  have pin:p∈fp i:=by rw [ef]; simp
  have op:O p:=r.sub i p pin
  have t:Tk H (L2.upd H p (.ext ψ)):=tk_updE hp
  refine ⟨⟨by simpa using r.len,fun j u h=>?_,fun j h=>?_,r.dis,r.nd,r.sub,fun b h=>?_,r.new,fun b o h=>?_⟩,⟨fun b o h n=>by rw [upd_ne (fun z=>n (by rw [z]; exact op))]; exact h,fun _ h=>.inl h,fun a h n=>⟨upd_ne (fun z=>n i (by rw [z]; exact pin)),h,n⟩⟩⟩
  · by_cases e:j=i
    · subst e
      rw [List.getElem?_set_self (by exact (List.getElem?_eq_some_iff.mp hs).1)] at h
      cases h
      exact ⟨_,hv,p,rfl,hl,ef⟩
    · rw [List.getElem?_set_ne (Ne.symm e)] at h
      obtain ⟨u,q,z⟩:=r.slot j _ h
      exact ⟨u,q,z.updE t op fun w=>e (r.dis j i p w pin)⟩
  · refine r.non j fun t z=>?_
    by_cases e:j=i
    · subst e
      exact h _ (List.getElem?_set_self (by exact (List.getElem?_eq_some_iff.mp hs).1))
    · exact h t (by rw [List.getElem?_set_ne (Ne.symm e)]; exact z)
  · by_cases e:b=p
    · exact .inr ⟨ψ,by rw [e]; exact upd_same⟩
    · rw [upd_ne e]; exact r.lst b h
  · rw [upd_ne (fun z=>by have w:=r.new p op; rw [←z,h] at w; cases w)]
    exact r.keep b o h
theorem phB_st {p:Addr}{xs:List (List (List Int)×Addr×Value)}(h1 h2:Heap)(x:phB p xs h1)(k:∀ o,h1.get? p=some o→h2.get? p=some o):phB p xs h2:=by
  obtain ⟨z,o,es,ep,e,r⟩:=x
  exact ⟨z,o,es,ep,k o e,r⟩
theorem phN_st {p:Addr}{ps:List (Int×Int)}(h1 h2:Heap)(x:phN p ps h1)(k:∀ o,h1.get? p=some o→h2.get? p=some o):phN p ps h2:=by
  obtain ⟨z,o,es,ep,e,r⟩:=x
  exact ⟨z,o,es,ep,k o e,r⟩
section
variable {X:Cx}{pins:List (Addr×Obj)}{s:Shared}
theorem ints_items' {K':PySem.W.Frag}{H:Hp}:∀ {ks:List Int} {vs:List V} {its:List Value},IsL K' H (ks.map .int) vs→Vals vs its→ItemsAre (intKind X.prog X.w) ks its
  | [],_,_,h,r=>by
    have h:_=[]:=h
    subst h
    cases r
    exact .nil
  | k::ks,_,_,h,r=>by
    obtain ⟨v,us,rfl,h1,h2⟩:=h
    have h1:v=.int k:=h1
    subst h1
    cases r with
    | cons r1 r2=>
      obtain ⟨t,rfl⟩:=r1
      exact .cons (by simp [intKind,Value.isInt]) (ints_items' h2 r2)
theorem is_row (I:L2.Inv X pins σ H s){ks:List Int}{v:V}{u:Value}(h:Is X.K H (.tup (ks.map .int)) v)(r:RelV v u):∃ a,u=.ref a∧IsTupleKey (intKind X.prog X.w) s.heap ks a:=by
  obtain ⟨a,vs,rfl,q,l⟩:=h
  obtain ⟨its,rv,⟨o,e,c,n,hd⟩,_⟩:=I.tuple q
  have r:u=.ref a:=r
  exact ⟨a,r,o,_,n,e,c,hd,ints_items' l rv⟩
theorem is_rows (I:L2.Inv X pins σ H s):∀ {x:List (List Int)} {vs:List V} {its:List Value},IsL X.K H (x.map fun r=>.tup (r.map .int)) vs→Vals vs its→Se.It2 X.prog X.w s.heap x its
  | [],_,_,h,r=>by
    have h:_=[]:=h
    subst h
    cases r
    exact .nil
  | k::ks,_,_,h,r=>by
    obtain ⟨v,us,rfl,h1,h2⟩:=h
    cases r with
    | cons r1 r2=>
      obtain ⟨a,rfl,q⟩:=is_row I h1 r1
      exact .cons q (is_rows I h2 r2)
theorem is_board (I:L2.Inv X pins σ H s){x:List (List Int)}{a:Addr}(h:Is X.K H (bdK x) (.ref a)):(Se.boardKind X.prog X.w).is s.heap x a:=by
  obtain ⟨b,vs,e,q,l⟩:=h
  cases e
  obtain ⟨its,rv,⟨o,e,c,n,hd⟩,_⟩:=I.tuple q
  exact ⟨o,_,n,e,c,hd,is_rows I l rv⟩
theorem dict_board (I:L2.Inv X pins σ H s){p:Addr}{xs:List (List (List Int)×Addr×Value)}(hp:H p=some (.ext (phB p xs)))(hx:∀ x∈xs,Is X.K H (bdK x.1) (.ref x.2.1)):(p == sysModules)=false∧s.heap.DictOfH (Se.boardKind X.prog X.w) p xs:=by
  obtain ⟨⟨z,o,es,ep,e,ed,hd,he,nd⟩,_⟩:=(show ObjOk X.prog X.w H s.heap p (.ext (phB p xs)) from I.hok p _ hp)
  exact ⟨z,o,es,ep,e,ed,hd,he,fun x h=>is_board I (hx x h),nd⟩
end
section
variable {X:Cx}{a b e o:Expr}{f g:M R}{pos p:Pos}
theorem pe_dctB:PE X (.Dict [] [] pos) (fun _ H Q=>∀ q,H q=none→Q (.ref q) (L2.upd H q (.ext (phB q [])))):=fun pins s σ H Q I h=>
  wpAny_Dict_empty ⟨.ref s.heap.objs.size,_,I.laid (a:=s.heap.objs.size) (o:=.ext (phB s.heap.objs.size [])) (t':=s.toks) (fun _ _ q=>Heap.get?_push_of_some _ q) (Nat.le_refl _)
    ⟨⟨beq_eq_false_iff_ne.mpr (Ne.symm (Nat.ne_of_lt (Nat.lt_trans (by decide) (I.mod.glob.keeps I.bk).lt))),_,#[],0,Heap.get?_push_size _ rfl,⟨rfl,rfl,rfl⟩,rfl,rfl,List.nodup_nil⟩,⟨_,Heap.get?_push_size _ rfl⟩,phB_st⟩,rfl,h _ (I.hok.fresh (Nat.le_refl _))⟩
theorem pe_dctN:PE X (.Dict [] [] pos) (fun _ H Q=>∀ q,H q=none→Q (.ref q) (L2.upd H q (.ext (phN q [])))):=fun pins s σ H Q I h=>
  wpAny_Dict_empty ⟨.ref s.heap.objs.size,_,I.laid (a:=s.heap.objs.size) (o:=.ext (phN s.heap.objs.size [])) (t':=s.toks) (fun _ _ q=>Heap.get?_push_of_some _ q) (Nat.le_refl _)
    ⟨⟨beq_eq_false_iff_ne.mpr (Ne.symm (Nat.ne_of_lt (Nat.lt_trans (by decide) (I.mod.glob.keeps I.bk).lt))),_,#[],0,Heap.get?_push_size _ rfl,⟨rfl,rfl,rfl⟩,rfl,rfl,fun i e q h=>by simp at h,List.nodup_nil⟩,⟨_,Heap.get?_push_size _ rfl⟩,phN_st⟩,rfl,h _ (I.hok.fresh (Nat.le_refl _))⟩
noncomputable def mDct (m:DM):M R:=fun ρ=>some (.of (.dct m),ρ)
theorem dct_of {m:DM}{σ:L2.St}{H:Hp}{Q:VK}{ψ:Addr→Heap→Prop}(hm:∀ K' q,DcAt K' (L2.upd H q (.ext (ψ q))) q m)(h:tQ K (mDct m) σ H Q):∀ q,H q=none→Q (.ref q) (L2.upd H q (.ext (ψ q))):=by
  obtain ⟨B,ρ,O,fp,x,ρ',R,hf,k⟩:=h
  cases hf
  intro q hq
  have g:Good K H (.dct m) Q:=R.good (fun v H' O' R' k' F'=>k v H' O' fp R' k' F') True.intro
  exact g q _ (same_new hq _) hq (hm K q)
theorem q_dctB:QE X (.Dict [] [] pos) (mDct (.bd [])):=pe_dctB.imp fun σ H Q h=>dct_of (m:=.bd []) (ψ:=fun q=>phB q []) (fun K' q=>⟨[],upd_same,rfl,fun x hx=>by simp at hx⟩) h
theorem q_dctN:QE X (.Dict [] [] pos) (mDct (.nn [])):=pe_dctN.imp fun σ H Q h=>dct_of (m:=.nn []) (ψ:=fun q=>phN q []) (fun K' q=>upd_same) h
inductive rNotB (K:PySem.W.Frag)(x:V)(y:V)(H:Hp)(Q:VK):Prop
  | mk:∀ k b q ks,(x=.ref b)→(Is K H (bdK k) x)→(y=.ref q)→(DcAt K H q (.bd ks))→(Q (.bl (!decide (k∈ks))) H)→rNotB K x y H Q
theorem atKey_mem {k:List (List Int)}:∀ {xs:List (List (List Int)×Addr×Value)},(atKey xs k).isSome=decide (k∈xs.map (·.1))
  | []=>by simp [atKey]
  | x::xs=>by
    have ih:=atKey_mem (k:=k) (xs:=xs)
    unfold atKey at ih ⊢
    rw [List.find?_cons]
    by_cases z:x.1=k
    · rw [decide_eq_true z]
      simp [z]
    · rw [decide_eq_false z]
      rw [Option.isSome_map] at ih ⊢
      dsimp only
      rw [ih]
      have z':¬ k=x.1:=fun w=>z w.symm
      simp [z']
theorem op_notB (hu:X.A.units+64 < cLine):OpR X (compareOp .NotIn) (rNotB X.K):=by
  intro pins s σ H x y v u Q I rx ry h
  obtain ⟨k,b,q,ks,rfl,hk,rfl,⟨xs,hq,e,hx⟩,hQ⟩:=h
  have rx:v=Value.ref b:=rx
  have ry:u=Value.ref q:=ry
  subst rx ry
  obtain ⟨z,hd⟩:=dict_board I hq hx
  refine PyProof.Rows.wpAny_notIn_heap (knd:=Se.boardKind X.prog X.w) (k:=k) (by show X.A.in1.units+8 < cLine; show X.A.units+1+8 < cLine; lia) (is_board I hk) z hd ?_
  rw [atKey_mem,e]
  exact ⟨.bl _,H,I.tok _,rfl,hQ⟩
noncomputable def bdAt (ρ:En)(i:Nat):Option (List (List (List Int))):=(ρ[i]?).join.bind fun s=>match s with
  | .dct (.bd ks)=>some ks
  | _=>none
theorem bdAt_of {i:Nat}{ks:List (List (List Int))}(h:bdAt ρ i=some ks):ρ[i]?=some (some (.dct (.bd ks))):=by
  obtain ⟨s,q,e⟩:=bind_some h
  split at e
  · cases e; exact join_some q
  · cases e
noncomputable def nnAt (ρ:En)(i:Nat):Option (List (Int×Int)):=(ρ[i]?).join.bind fun s=>match s with
  | .dct (.nn ks)=>some ks
  | _=>none
theorem nnAt_of {i:Nat}{ks:List (Int×Int)}(h:nnAt ρ i=some ks):ρ[i]?=some (some (.dct (.nn ks))):=by
  obtain ⟨s,q,e⟩:=bind_some h
  split at e
  · cases e; exact join_some q
  · cases e
noncomputable def rowD:D→Option (List Int)
  | .tup ds=>intsOf ds
  | _=>none
noncomputable def rowsD:List D→Option (List (List Int))
  | []=>some []
  | d::ds=>(rowD d).bind fun r=>(rowsD ds).bind fun rs=>some (r::rs)
noncomputable def brdD:D→Option (List (List Int))
  | .tup ds=>rowsD ds
  | _=>none
theorem rowD_eq {d:D}{r:List Int}(h:rowD d=some r):d=.tup (r.map .int):=by
  cases d with
  | tup ds=>rw [intsOf_eq (show intsOf ds=some r from h)]
  | _=>cases h
theorem rowsD_eq:∀ {ds:List D} {rs:List (List Int)},rowsD ds=some rs→ds=rs.map fun r=>.tup (r.map .int)
  | [],_,h=>by cases h; rfl
  | d::ds,_,h=>by
    obtain ⟨r,h1,h⟩:=bind_some h
    obtain ⟨q,h2,h⟩:=bind_some h
    cases h
    rw [List.map_cons,←rowD_eq h1,←rowsD_eq h2]
theorem brdD_eq {d:D}{x:List (List Int)}(h:brdD d=some x):d=bdK x:=by
  cases d with
  | tup ds=>rw [rowsD_eq (show rowsD ds=some x from h)]; rfl
  | _=>cases h
noncomputable def brdR (ρ:En)(r:R):Option (List (List Int)):=(dr ρ r).bind fun s=>match s with
  | .val d=>brdD d
  | _=>none
theorem brdR_is {r:R}{x:List (List Int)}{v:V}{Z:Addr→Prop}(R1:Rel K B ρ σ H O fp)(k:ResOk K H O fp σ Z r v)(h:brdR ρ r=some x):Is K H (bdK x) v:=by
  obtain ⟨s,h1,h2⟩:=bind_some h
  obtain ⟨f,hs⟩:=R1.dr k h1
  cases s with
  | val d=>
    rw [←brdD_eq (show brdD d=some x from h2)]
    exact hs.1
  | _=>cases h2
noncomputable def mNotB (f:M R)(i:Nat):M Bool:=fun ρ=>(f ρ).bind fun x=>(brdR x.2 x.1).bind fun k=>(bdAt x.2 i).bind fun ks=>some (!decide (k∈ks),x.2)
theorem qt_notB {i:Nat}(hu:X.A.units+64 < cLine)(ha:QE X a f)(hb:PE X b (tVar i))(hm:behindInMarks .NotIn b=false:=by rfl):QT X (.Compare a [.NotIn] [b] pos) (mNotB f i):=
  (pt_cmpR (op_notB hu) ha hb hm).imp fun σ H Q zq=>by
    obtain ⟨B,ρ,O,fp,c,ρ',R,hf,k⟩:=zq
    obtain ⟨⟨x,ρ1⟩,h1,hf⟩:=bind_some hf
    obtain ⟨kk,h2,hf⟩:=bind_some hf
    obtain ⟨ks,h3,hf⟩:=bind_some hf
    cases hf
    refine ⟨B,ρ,O,fp,x,ρ1,R,h1,fun v H1 O1 fp1 R1 k1 F1=>?_⟩
    obtain ⟨vo,e1,q,rfl,h4,_⟩:=R1.slot i _ (bdAt_of h3)
    have hk:=brdR_is R1 k1 h2
    obtain ⟨b,vs,rfl,w⟩:=id hk
    exact ⟨.ref q,e1,kk,b,q,ks,rfl,hk,rfl,h4,_,rfl,k H1 O1 fp1 R1 F1⟩
end
end Mi
namespace Mi
open PySem L2
open PySem.Spec
variable {K:PySem.W.Frag}{H H':Hp}{O O':Addr→Prop}{fp fp':Nat→List Addr}{B:Hp}{ρ ρ':En}{σ:L2.St}
section
variable {X:Cx}{a b e o:Expr}{f g:M R}{pos p:Pos}
noncomputable def addB (ks:List (List (List Int)))(k:List (List Int)):List (List (List Int)):=if k∈ks then ks else ks++[k]
inductive rSetB (K:PySem.W.Frag)(o:V)(i:V)(v:V)(H:Hp)(Q:(Hp→Prop)):Prop
  | mk:∀ q ks k b,(o=.ref q)→(i=.ref b)→(Is K H (bdK k) i)→(DcAt K H q (.bd ks))→(ks.length < big)→(∀ φ ψ,H q=some (.ext φ)→DcAt K (L2.upd H q (.ext ψ)) q (.bd (addB ks k))→Q (L2.upd H q (.ext ψ)))→rSetB K o i v H Q
theorem set_brd (hu:X.A.units+64 < cLine):PSet X (rSetB X.K):=by
  intro pins s σ H o i v ov iv u Q I ro ri rv h
  obtain ⟨q,ks,k,b,rfl,rfl,hk,⟨xs,hq,e,hx⟩,hl,hQ⟩:=h
  have ro:ov=Value.ref q:=ro
  have ri:iv=Value.ref b:=ri
  subst ro ri
  obtain ⟨z,hd⟩:=dict_board I hq hx
  have lx:xs.length=ks.length:=by rw [←e,List.length_map]
  refine wpAny_setItem_heap (knd:=Se.boardKind X.prog X.w) (k:=k) (by show X.A.in1.units+8 < cLine; show X.A.units+1+8 < cLine; lia) (is_board I hk) hd (fun h' dd hs=>?_) (by rw [lx]; exact Nat.le_of_lt (big_line hl))
  have t:∀ ψ,Tk H (L2.upd H q (.ext ψ)):=fun ψ=>tk_updE hq
  have keys:(storedH xs k b u).map (·.1)=addB ks k:=by
    unfold storedH addB
    rw [atKey_mem,e]
    by_cases hz:k∈ks
    · rw [if_pos (by simpa using hz),if_pos hz,keys_map_putAt,e]
    · rw [if_neg (by simpa using hz),if_neg hz,List.map_append,e]
      rfl
  have his:∀ x∈storedH xs k b u,Is X.K H (bdK x.1) (.ref x.2.1):=fun x hxx=>by
    unfold storedH at hxx
    split at hxx
    · obtain ⟨y,hy,rfl⟩:=List.mem_map.mp hxx
      unfold putAt
      split
      · exact hx y hy
      · exact hx y hy
    · rcases List.mem_append.mp hxx with hy | hy
      · exact hx x hy
      · rw [List.mem_singleton.mp hy]
        exact hk
  obtain ⟨o2,es2,ep2,e2,ed2,hd2,he2,_,nd2⟩:=id dd
  refine ⟨_,I.write (x:=q) (e:=q) (o:=.ext (phB q (storedH xs k b u))) (by rw [hq]; exact True.intro) (.inl rfl) (fun b o hb w=>(hs.2 b hb).trans w) ⟨o2,e2⟩ ⟨⟨z,o2,es2,ep2,e2,ed2,hd2,he2,nd2⟩,⟨o2,e2⟩,phB_st⟩,?_⟩
  exact hQ _ _ hq ⟨_,upd_same,keys,fun x hxx=>(his x hxx).tk (t _)⟩
noncomputable def setB (i:Nat)(m:M R):MG:=fun s ρ=>match s with
  | .val _=>(bdAt ρ i).bind fun _=>(m ρ).bind fun x=>(brdR x.2 x.1).bind fun k=>(bdAt x.2 i).bind fun ks=>if ks.length < big then some (x.2.set i (some (.dct (.bd (addB ks k))))) else none
  | _=>none
theorem qg_setB {i:Nat}{m:M R}(hu:X.A.units+64 < cLine)(ho:PE X a (tVar i))(hi:QE X b m)
    (ha:∀ v,assign (.Subscript a b pos) X.env v=(do
      let ov ←holding [v] (eval a X.env)
      let iv ←holding [v,ov] (eval b X.env)
      standAt pos
      holding [v,ov,iv] (setItem ov iv v)
      release [v,ov,iv] []):=by intro _; rfl):QG X (.Subscript a b pos) [] (setB i m):=
  (pg_sub ho hi (set_brd hu) ha).imp fun v σ H Q zq=>by
    obtain ⟨B,ρ,O,fp,s,ρ',R,hs,hg,k⟩:=zq
    cases s with
    | val d=>
      obtain ⟨ks0,q0,hg⟩:=bind_some hg
      obtain ⟨⟨x,ρ1⟩,q2,hg⟩:=bind_some hg
      obtain ⟨kk,q3,hg⟩:=bind_some hg
      obtain ⟨ks,q4,hg⟩:=bind_some hg
      have hg:(if ks.length < big then some (ρ1.set i (some (.dct (.bd (addB ks kk))))) else none)=some ρ':=hg
      split at hg
      · rename_i hl
        cases hg
        obtain ⟨vo,e1,p,rfl,_⟩:=R.slot i _ (bdAt_of q0)
        refine ⟨.ref p,e1,B,ρ,O,fp,x,ρ1,R,q2,fun iv H1 O1 fp1 R1 k1 F1=>?_⟩
        obtain ⟨vo',e3,p',e4,h4,h6⟩:=R1.slot i _ (bdAt_of q4)
        rw [e1] at e3; cases e3; cases e4
        have hk:=brdR_is R1 k1 q3
        obtain ⟨b,vs,rfl,w⟩:=id hk
        refine ⟨p,ks,kk,b,rfl,rfl,hk,h4,hl,fun φ ψ hφ hψ=>?_⟩
        obtain ⟨R2,F2⟩:=R1.updD (bdAt_of q4) e1 hφ hψ
        exact k σ _ O1 fp1 Agr.refl R2 (F1.trans F2)
      · cases hg
    | _=>cases hg
end
inductive PN:List (Int×Value)→List (Int×Int)→Prop
  | nil:PN [] []
  | cons {k n:Int} {t:Tok} {vs:List (Int×Value)} {ps:List (Int×Int)}:PN vs ps→PN ((k,.int n t)::vs) ((k,n)::ps)
theorem PN.len:∀ {vs:List (Int×Value)} {ps:List (Int×Int)},PN vs ps→vs.length=ps.length
  | _,_,.nil=>rfl
  | _,_,.cons r=>by rw [List.length_cons,List.length_cons,PN.len r]
theorem PN.keys:∀ {vs:List (Int×Value)} {ps:List (Int×Int)},PN vs ps→vs.map (·.1)=ps.map (·.1)
  | _,_,.nil=>rfl
  | _,_,.cons r=>by rw [List.map_cons,List.map_cons,PN.keys r]
theorem PN.at:∀ {vs:List (Int×Value)} {ps:List (Int×Int)},PN vs ps→∀ (i:Nat) (a:Int) (x:Value),vs[i]?=some (a,x)→∃ (b:Int) (u:Tok),ps[i]?=some (a,b)∧x=Value.int b u
  | _,_,.nil,i,a,x,h=>by simp at h
  | _,_,.cons (n:=n) (t:=t) r,0,a,x,h=>by
    simp at h
    obtain ⟨rfl,rfl⟩:=h
    exact ⟨n,t,rfl,rfl⟩
  | _,_,.cons r,i+1,a,x,h=>PN.at r i a x (by simpa using h)
theorem PN.snoc:∀ {vs:List (Int×Value)} {ps:List (Int×Int)} {k n:Int} {t:Tok},PN vs ps→PN (vs++[(k,.int n t)]) (ps++[(k,n)])
  | _,_,_,_,_,.nil=>.cons .nil
  | _,_,_,_,_,.cons r=>.cons (PN.snoc r)
noncomputable def getN (ps:List (Int×Int))(k:Int):Option Int:=(ps.find? fun q=>decide (q.1=k)).map (·.2)
noncomputable def putN (ps:List (Int×Int))(k n:Int):List (Int×Int):=if (ps.any fun q=>decide (q.1=k))=true then ps.map (fun q=>if q.1=k then (q.1,n) else q) else ps++[(k,n)]
theorem PN.get {k:Int}:∀ {vs:List (Int×Value)} {ps:List (Int×Int)},PN vs ps→match getN ps k with
    | some n=>∃ t,valueAt vs k=some (.int n t)
    | none=>valueAt vs k=none
  | _,_,.nil=>rfl
  | _,_,.cons (k:=k') (n:=n) (t:=t) (vs:=vs) (ps:=ps) r=>by
    have ih:=PN.get (k:=k) r
    by_cases z:k'=k
    · have e1:getN ((k',n)::ps) k=some n:=by simp [getN,z]
      rw [e1]
      exact ⟨t,by simp [valueAt,z]⟩
    · have e1:getN ((k',n)::ps) k=getN ps k:=by simp [getN,List.find?_cons,z]
      have e2:valueAt ((k',Value.int n t)::vs) k=valueAt vs k:=by simp [valueAt,List.find?_cons,z]
      rw [e1,e2]
      exact ih
theorem PN.any {k:Int}:∀ {vs:List (Int×Value)} {ps:List (Int×Int)},PN vs ps→(vs.any fun q=>decide (q.1=k))=(ps.any fun q=>decide (q.1=k))
  | _,_,.nil=>rfl
  | _,_,.cons r=>by rw [List.any_cons,List.any_cons,PN.any r]
theorem PN.put {k n:Int}{t:Tok}:∀ {vs:List (Int×Value)} {ps:List (Int×Int)},PN vs ps→PN (vs.map fun kv=>if kv.1=k then (kv.1,Value.int n t) else kv) (ps.map fun q=>if q.1=k then (q.1,n) else q)
  | _,_,.nil=>.nil
  | _,_,.cons (k:=k') (n:=n') (t:=t') r=>by
    rw [List.map_cons,List.map_cons]
    by_cases z:k'=k
    · simp only [z,if_true]
      exact .cons (PN.put r)
    · simp only [z,if_false]
      exact .cons (PN.put r)
theorem PN.stored {vs:List (Int×Value)}{ps:List (Int×Int)}{k n:Int}{t:Tok}(h:PN vs ps):PN (PySem.stored vs k (.int n t)) (putN ps k n):=by
  unfold PySem.stored putN
  rw [←h.any]
  split
  · exact h.put
  · exact h.snoc
section
variable {prog:Program}{w:World}{h:Heap}{p:Addr}{ps:List (Int×Int)}
theorem phN_of {kvs:List (Int×Value)}(z:(p == sysModules)=false)(hd:h.DictOf (intKind prog w) p kvs)(hn:PN kvs ps):phN p ps h:=by
  obtain ⟨o,es,ep,e,ed,hdd,hk,hp,nd⟩:=hd
  refine ⟨z,o,es,ep,e,ed,hdd,?_,fun i en q hi hq=>?_,by rw [←hn.keys]; exact nd⟩
  · rw [←hn.len,←hp.length]; simp
  · have li:i < kvs.length:=by rw [hn.len]; exact (List.getElem?_eq_some_iff.mp hq).1
    have g:=List.getElem?_eq_getElem li
    obtain ⟨b,u,e1,e2⟩:=hn.at i kvs[i].1 kvs[i].2 (by rw [g])
    rw [hq] at e1
    cases e1
    obtain ⟨q1,q2⟩:=hp.get? (e:=en) (i:=i) (by simpa using hi) g
    obtain ⟨t,q3⟩:=Value.isInt_shape q1
    obtain ⟨k2,r1,r2⟩:=hk en (Array.mem_of_getElem? hi)
    obtain ⟨t2,r3⟩:=Value.isInt_shape r1
    rw [q3] at r3
    cases r3
    refine ⟨t,u,?_⟩
    obtain ⟨hh,kk,vv⟩:=en
    have q2:vv=kvs[i].2:=q2
    have q3:kk=.int kvs[i].1 t:=q3
    have r2:hh=hashInt kvs[i].1:=r2
    rw [q3,q2,e2,r2]
theorem pairs_of:∀ {es:List DictEntry} {ps:List (Int×Int)},es.length=ps.length→(∀ (i:Nat) (e:DictEntry) (q:Int×Int),es[i]?=some e→ps[i]?=some q→∃ t u,e=⟨hashInt q.1,.int q.1 t,.int q.2 u⟩)→∃ kvs,Pairs (intKind prog w) es kvs∧PN kvs ps∧∀ e∈es,∃ k,(intKind prog w).is k e.key=true∧e.hash=(intKind prog w).hash k
  | [],[],_,_=>⟨[],.nil,.nil,fun e he=>by simp at he⟩
  | [],_::_,h,_=>by simp at h
  | _::_,[],h,_=>by simp at h
  | e::es,(k,n)::ps,h,q=>by
    obtain ⟨t,u,rfl⟩:=q 0 e (k,n) rfl rfl
    obtain ⟨kvs,h1,h2,h3⟩:=pairs_of (es:=es) (ps:=ps) (by simpa using h) fun i e' q' hi hq=>q (i+1) e' q' (by simpa using hi) (by simpa using hq)
    have ik:(intKind prog w).is k (.int k t)=true:=by simp [intKind,Value.isInt]
    refine ⟨(k,.int n u)::kvs,.cons ik rfl h1,.cons h2,fun e' he=>?_⟩
    rcases List.mem_cons.mp he with rfl | he
    · exact ⟨k,ik,rfl⟩
    · exact h3 e' he
theorem phN_dict (prog:Program)(w:World)(x:phN p ps h):(p == sysModules)=false∧∃ kvs,h.DictOf (intKind prog w) p kvs∧PN kvs ps:=by
  obtain ⟨z,o,es,ep,e,ed,hdd,sz,hi,nd⟩:=x
  obtain ⟨kvs,h1,h2,h3⟩:=pairs_of (prog:=prog) (w:=w) (es:=es.toList) (ps:=ps) (by simpa using sz) fun i e q h1 h2=>hi i e q (by simpa using h1) h2
  exact ⟨z,kvs,⟨o,es,ep,e,ed,hdd,fun e he=>h3 e (by simpa using he),h1,by rw [h2.keys]; exact nd⟩,h2⟩
end
section
variable {X:Cx}{pins:List (Addr×Obj)}{s:Shared}
theorem dict_nums (I:L2.Inv X pins σ H s){p:Addr}{ps:List (Int×Int)}(hp:H p=some (.ext (phN p ps))):(p == sysModules)=false∧∃ kvs,s.heap.DictOf (intKind X.prog X.w) p kvs∧PN kvs ps:=
  phN_dict _ _ (show ObjOk X.prog X.w H s.heap p (.ext (phN p ps)) from I.hok p _ hp).1
end
section
variable {X:Cx}{a b e o:Expr}{f g:M R}{pos p:Pos}
inductive rSetN (K:PySem.W.Frag)(o:V)(i:V)(v:V)(H:Hp)(Q:(Hp→Prop)):Prop
  | mk:∀ q ps k n,(o=.ref q)→(i=.int k)→(v=.int n)→(H q=some (.ext (phN q ps)))→(ps.length < big)→(Q (L2.upd H q (.ext (phN q (putN ps k n)))))→rSetN K o i v H Q
theorem int_is {k:Int}{t:Tok}:(intKind X.prog X.w).is k (.int k t)=true:=by simp [intKind,Value.isInt]
theorem set_num:PSet X (rSetN X.K):=by
  intro pins s σ H o i v ov iv u Q I ro ri rv h
  obtain ⟨q,ps,k,n,rfl,rfl,rfl,hq,hl,hQ⟩:=h
  have ro:ov=Value.ref q:=ro
  subst ro
  obtain ⟨t,rfl⟩:=ri
  obtain ⟨t2,rfl⟩:=rv
  obtain ⟨z,kvs,hd,hn⟩:=dict_nums I hq
  refine wpAny_setItem_pairs (hsz:=by rw [hn.len]; exact Nat.le_of_lt (big_line hl)) (int_is (X:=X)) hd fun h' dd' hs=>?_
  have pn:=phN_of z dd' (hn.stored (k:=k) (n:=n) (t:=t2))
  obtain ⟨o2,es2,ep2,e2,_⟩:=id dd'
  exact ⟨_,I.write (x:=q) (e:=q) (o:=.ext (phN q (putN ps k n))) (by rw [hq]; exact True.intro) (.inl rfl) (fun b o hb w=>(hs.2 b hb).trans w) ⟨o2,e2⟩ ⟨pn,⟨o2,e2⟩,phN_st⟩,hQ⟩
noncomputable def setNN (i:Nat)(m:M R):MG:=fun s ρ=>match s with
  | .val (.int n)=>(nnAt ρ i).bind fun _=>(m ρ).bind fun x=>(dr x.2 x.1).bind fun y=>match y with
    | .val (.int k)=>(nnAt x.2 i).bind fun ps=>if ps.length < big then some (x.2.set i (some (.dct (.nn (putN ps k n))))) else none
    | _=>none
  | _=>none
theorem qg_setNN {i:Nat}{m:M R}(ho:PE X a (tVar i))(hi:QE X b m)
    (ha:∀ v,assign (.Subscript a b pos) X.env v=(do
      let ov ←holding [v] (eval a X.env)
      let iv ←holding [v,ov] (eval b X.env)
      standAt pos
      holding [v,ov,iv] (setItem ov iv v)
      release [v,ov,iv] []):=by intro _; rfl):QG X (.Subscript a b pos) [] (setNN i m):=
  (pg_sub ho hi set_num ha).imp fun v σ H Q zq=>by
    obtain ⟨B,ρ,O,fp,s,ρ',R,hs,hg,k⟩:=zq
    cases s with
    | val d=>
      cases d with
      | int n=>
        obtain ⟨ks0,q0,hg⟩:=bind_some hg
        obtain ⟨⟨x,ρ1⟩,q2,hg⟩:=bind_some hg
        obtain ⟨y,q3,hg⟩:=bind_some hg
        cases y with
        | val dy=>
          cases dy with
          | int kk=>
            obtain ⟨ps,q4,hg⟩:=bind_some hg
            have hg:(if ps.length < big then some (ρ1.set i (some (.dct (.nn (putN ps kk n))))) else none)=some ρ':=hg
            split at hg
            · rename_i hl
              cases hg
              obtain ⟨vo,e1,p,rfl,_⟩:=R.slot i _ (nnAt_of q0)
              refine ⟨.ref p,e1,B,ρ,O,fp,x,ρ1,R,q2,fun iv H1 O1 fp1 R1 k1 F1=>?_⟩
              obtain ⟨vo',e3,p',e4,h4,h6⟩:=R1.slot i _ (nnAt_of q4)
              rw [e1] at e3; cases e3; cases e4
              obtain ⟨g,hy,_⟩:=R1.dr k1 q3
              have e2:iv=.int kk:=hy
              have e5:v=.int n:=hs.1
              obtain ⟨R2,F2⟩:=R1.updD (m':=.nn (putN ps kk n)) (ψ:=phN p (putN ps kk n)) (nnAt_of q4) e1 h4 upd_same
              exact ⟨p,ps,kk,n,rfl,e2,e5,h4,hl,k σ _ O1 fp1 Agr.refl R2 (F1.trans F2)⟩
            · cases hg
          | _=>cases hg
        | _=>cases hg
      | _=>cases hg
    | _=>cases hg
end
end Mi
namespace Mi
open PySem L2
open PySem.Spec
variable {K:PySem.W.Frag}{H H':Hp}{O O':Addr→Prop}{fp fp':Nat→List Addr}{B:Hp}{ρ ρ':En}{σ:L2.St}
noncomputable def insI (n:Int):List Int→List Int
  | []=>[n]
  | m::r=>if n < m then n::m::r else if n=m then m::r else m::insI n r
noncomputable def srtS (ns:List Int):List Int:=ns.foldr insI []
theorem insI_mem {n a:Int}:∀ {l:List Int},a∈insI n l↔a=n∨a∈l
  | []=>by simp [insI]
  | m::r=>by
    unfold insI
    split
    · simp
    · split
      · rename_i h1 h2
        subst h2
        simp
      · rw [List.mem_cons,insI_mem,List.mem_cons]
        constructor
        · rintro (h | h | h)<;>simp [h]
        · rintro (h | h | h)<;>simp [h]
theorem insI_up {n:Int}:∀ {l:List Int},l.Pairwise (· < ·)→(insI n l).Pairwise (· < ·)
  | [],_=>by simp [insI]
  | m::r,h=>by
    rw [List.pairwise_cons] at h
    unfold insI
    split
    · rename_i h1
      rw [List.pairwise_cons,List.pairwise_cons]
      refine ⟨fun a ha=>?_,h⟩
      rcases List.mem_cons.mp ha with rfl | ha
      · exact h1
      · have:=h.1 a ha; lia
    · split
      · rw [List.pairwise_cons]; exact h
      · rename_i h1 h2
        rw [List.pairwise_cons]
        refine ⟨fun a ha=>?_,insI_up h.2⟩
        rcases insI_mem.mp ha with rfl | ha
        · lia
        · exact h.1 a ha
theorem srtS_mem {a:Int}:∀ {ns:List Int},a∈srtS ns↔a∈ns
  | []=>by simp [srtS]
  | n::r=>by
    show a∈insI n (srtS r)↔_
    rw [insI_mem,srtS_mem,List.mem_cons]
theorem srtS_up:∀ {ns:List Int},(srtS ns).Pairwise (· < ·)
  | []=>by simp [srtS]
  | n::r=>insI_up srtS_up
theorem up_ext:∀ {l k:List Int},l.Pairwise (· < ·)→k.Pairwise (· < ·)→(∀ a,a∈l↔a∈k)→l=k
  | [],[],_,_,_=>rfl
  | [],b::k,_,_,h=>by have:=(h b).mpr (by simp); simp at this
  | a::l,[],_,_,h=>by have:=(h a).mp (by simp); simp at this
  | a::l,b::k,h1,h2,h=>by
    rw [List.pairwise_cons] at h1 h2
    have e:a=b:=by
      rcases List.mem_cons.mp ((h a).mp (by simp)) with e | e
      · exact e
      · rcases List.mem_cons.mp ((h b).mpr (by simp)) with e' | e'
        · exact e'.symm
        · have:=h1.1 b e'; have:=h2.1 a e; lia
    subst e
    rw [up_ext h1.2 h2.2 fun c=>?_]
    constructor
    · intro hc
      rcases List.mem_cons.mp ((h c).mp (by simp [hc])) with e | e
      · have:=h1.1 c hc; lia
      · exact e
    · intro hc
      rcases List.mem_cons.mp ((h c).mpr (by simp [hc])) with e | e
      · have:=h2.1 c hc; lia
      · exact e
theorem srtS_eq {l ns:List Int}(h:l.Pairwise (· < ·))(hm:∀ a,a∈l↔a∈ns):l=srtS ns:=up_ext h srtS_up fun a=>(hm a).trans srtS_mem.symm
noncomputable def srtP (ps:List (Int×Int)):List (Int×Int):=(srtS (ps.map (·.1))).map fun k=>(k,(getN ps k).getD 0)
theorem getN_of:∀ {ps:List (Int×Int)} {q:Int×Int},(ps.map (·.1)).Nodup→q∈ps→getN ps q.1=some q.2
  | [],_,_,h=>by simp at h
  | p::ps,q,nd,h=>by
    rw [List.map_cons,List.nodup_cons] at nd
    rcases List.mem_cons.mp h with rfl | h
    · simp [getN]
    · have z:¬ p.1=q.1:=fun z=>nd.1 (by rw [z]; exact List.mem_map_of_mem h)
      have:=getN_of nd.2 h
      unfold getN at this ⊢
      rw [List.find?_cons,decide_eq_false z]
      exact this
theorem srtP_eq {qs ps:List (Int×Int)}(nd:(ps.map (·.1)).Nodup)(pm:qs.Perm ps)(up:qs.Pairwise fun x y=>x.1 < y.1):qs=srtP ps:=by
  have e:qs.map (·.1)=srtS (ps.map (·.1)):=srtS_eq (by rw [List.pairwise_map]; exact up) fun a=>(pm.map (·.1)).mem_iff
  unfold srtP
  rw [←e,List.map_map]
  have:qs=qs.map id:=by simp
  refine this.trans (List.map_congr_left fun q hq=>?_)
  show q=(q.1,(getN ps q.1).getD 0)
  rw [getN_of nd (pm.mem_iff.mp hq)]
  rfl
section
variable {X:Cx}{pins:List (Addr×Obj)}{s:Shared}{h':Heap}
theorem un_many (low:∀ b,b < s.heap.objs.size→H' b=H b)(hok:HOk X.prog X.w H s.heap)(kp:∀ b u,s.heap.get? b=some u→h'.get? b=some u){fs ex:List Addr}:Un fs ex H H' s.heap h' where
  keep:=fun b u q _ _ _=>kp b u q
  slot:=fun b u q _ _ _=>⟨u.slots,kp b u q⟩
  free:=fun b u q n _=>by rw [low b (Heap.lt_size q)]; exact n
  there:=fun b u q _=>⟨u,kp b u q⟩
  tups:=fun b xs e=>by rw [low b (hok.lt e)]; exact e
  frzs:=fun b o u e=>by rw [low b (hok.lt e)]; exact e
  tbls:=fun b ps e=>⟨#[],by rw [low b (hok.lt e),e]; simp⟩
theorem hok_many (low:∀ b,b < s.heap.objs.size→H' b=H b)(hok:HOk X.prog X.w H s.heap)(kp:∀ b u,s.heap.get? b=some u→h'.get? b=some u)(new:∀ b o,s.heap.objs.size≤b→H' b=some o→ObjOk X.prog X.w H' h' b o):HOk X.prog X.w H' h':=fun a o e=>by
  by_cases ha:a < s.heap.objs.size
  · rw [low a ha] at e
    exact (hok a o e).stay (fun b u _ q=>kp b u q) (fun b q=>by rw [low b (hok.lt q)]; exact q) fun b xs q=>by rw [low b (hok.lt q)]; exact q
  · exact new a o (Nat.le_of_not_lt ha) e
theorem same_many (low:∀ b,b < s.heap.objs.size→H' b=H b)(hok:HOk X.prog X.w H s.heap):Same H H':=fun b o e=>by rw [low b (hok.lt e)]; exact e
end
section
variable {h:Heap}
theorem prs_addr:∀ {vs:List Value} {qs:List (Int×Int)},Se.Prs h vs qs→∃ ap:List (Addr×Int×Int),vs=ap.map (fun x=>Value.ref x.1)∧qs=ap.map (·.2)∧∀ x∈ap,Se.Pr h (.ref x.1) x.2.1 x.2.2
  | _,_,.nil=>⟨[],rfl,rfl,fun x hx=>by simp at hx⟩
  | _,_,.cons (v:=v) (a:=a) (b:=b) p r=>by
    obtain ⟨ap,rfl,rfl,h3⟩:=prs_addr r
    obtain ⟨q,o,t,u,n,rfl,w1,w2,w3⟩:=p
    refine ⟨(q,a,b)::ap,rfl,rfl,fun x hx=>?_⟩
    rcases List.mem_cons.mp hx with rfl | hx
    · exact ⟨q,o,t,u,n,rfl,w1,w2,w3⟩
    · exact h3 x hx
end
noncomputable def pairD (q:Int×Int):D:=.tup [.int q.1,.int q.2]
section
variable {X:Cx}{pins:List (Addr×Obj)}{s:Shared}{h':Heap}
noncomputable def hpP (H:Hp)(ap:List (Addr×Int×Int))(L:Addr):Hp:=fun a=>match ap.lookup a with
  | some q=>some (.tup [.int q.1,.int q.2])
  | none=>if a=L then some (.lst (ap.map fun x=>.ref x.1)) else H a
theorem lookup_mem:∀ {ap:List (Addr×Int×Int)} {a:Addr} {q:Int×Int},ap.lookup a=some q→(a,q)∈ap
  | [],a,q,h=>by simp at h
  | (b,r)::ap,a,q,h=>by
    rw [List.lookup_cons] at h
    by_cases z:a=b
    · subst z
      simp at h
      simp [h]
    · rw [show (a == b)=false by simpa using z] at h
      exact List.mem_cons_of_mem _ (lookup_mem h)
theorem lookup_some:∀ {ap:List (Addr×Int×Int)} {a:Addr} {q:Int×Int},(a,q)∈ap→∃ r,ap.lookup a=some r
  | (b,r)::ap,a,q,h=>by
    rw [List.lookup_cons]
    by_cases z:a=b
    · subst z
      simp
    · rw [show (a == b)=false by simpa using z]
      rcases List.mem_cons.mp h with e | e
      · exact absurd (congrArg Prod.fst e) z
      · exact lookup_some e
theorem pr_un {h:Heap}{a:Addr}{x y x' y':Int}(p:Se.Pr h (.ref a) x y)(q:Se.Pr h (.ref a) x' y'):x=x'∧y=y':=by
  obtain ⟨b,o,t,u,n,e,h1,_,h2⟩:=p
  obtain ⟨b',o',t',u',n',e',h1',_,h2'⟩:=q
  cases e
  cases e'
  rw [h1] at h1'
  cases h1'
  rw [h2] at h2'
  cases h2'
  exact ⟨rfl,rfl⟩
theorem items_post (I:L2.Inv X pins σ H s){L:Addr}{out:Array Value}{e t':Nat}{qs:List (Int×Int)}(hL:s.heap.objs.size≤L)(kp:∀ b o,s.heap.get? b=some o→h'.get? b=some o)
    (gL:h'.get? L=some (PyProof.Rows.seqObj "list" out e)) (pr:Se.Prs h' out.toList qs) (nw:∀ v∈out.toList,∃ p,v=Value.ref p∧s.heap.objs.size≤p) (hz:qs.length≤sizeLine):
    ∃ H' vs,L2.Inv X pins σ H' { s with heap:=h',toks:=t' }∧Same H H'∧H L=none∧H' L=some (.lst vs)∧IsL X.K H' (qs.map pairD) vs:=by
  obtain ⟨ap,e1,rfl,h3⟩:=prs_addr pr
  have nwa:∀ x∈ap,s.heap.objs.size≤x.1:=fun x hx=>by
    obtain ⟨p,e2,hp⟩:=nw (.ref x.1) (by rw [e1]; exact List.mem_map_of_mem (f:=fun x:Addr×Int×Int=>Value.ref x.1) hx)
    cases e2
    exact hp
  have nL:∀ x∈ap,x.1≠L:=fun x hx z=>by
    obtain ⟨p,o,t,u,n,e2,g,c,_⟩:=h3 x hx
    cases e2
    rw [z,gL] at g
    cases g
    exact absurd (Value.type.inj c) (by decide)
  have low:∀ b,b < s.heap.objs.size→hpP H ap L b=H b:=fun b hb=>by
    unfold hpP
    cases z:ap.lookup b with
    | some q=>exact absurd (nwa _ (lookup_mem z)) (by show ¬ s.heap.objs.size≤b; lia)
    | none=>
      show (if b=L then _ else _)=_
      rw [if_neg (by lia)]
  have atL:hpP H ap L L=some (.lst (ap.map fun x=>.ref x.1)):=by
    unfold hpP
    cases z:ap.lookup L with
    | some q=>exact absurd rfl (nL _ (lookup_mem z))
    | none=>exact if_pos rfl
  have atP:∀ x∈ap,hpP H ap L x.1=some (.tup [.int x.2.1,.int x.2.2]):=fun x hx=>by
    unfold hpP
    obtain ⟨r,z⟩:=lookup_some (a:=x.1) (q:=x.2) hx
    rw [z]
    obtain ⟨z1,z2⟩:=pr_un (h3 _ (lookup_mem z)) (h3 x hx)
    show some (HO.tup [.int r.1,.int r.2])=_
    rw [show r.1=x.2.1 from z1,show r.2=x.2.2 from z2]
  have new:∀ b o,s.heap.objs.size≤b→hpP H ap L b=some o→ObjOk X.prog X.w (hpP H ap L) h' b o:=fun b o hb q=>by
    unfold hpP at q
    cases z:ap.lookup b with
    | some r=>
      rw [z] at q
      cases q
      obtain ⟨p,o,t,u,n,e2,g,c,d⟩:=h3 _ (lookup_mem z)
      cases e2
      refine ⟨Nat.le_trans (show 2≤2 from Nat.le_refl 2) (by rw [sizeLine_eq]; decide),[.int r.1 t,.int r.2 u],.cons ⟨_,rfl⟩ (.cons ⟨_,rfl⟩ .nil),o,g,c,n,d⟩
    | none=>
      rw [z] at q
      by_cases zL:b=L
      · subst zL
        have q:(if b=b then some (HO.lst (ap.map fun x=>V.ref x.1)) else H b)=some o:=q
        rw [if_pos rfl] at q
        cases q
        refine ⟨by rw [List.length_map]; rw [List.length_map] at hz; exact hz,out.toList,e,?_,gL⟩
        rw [e1]
        have go:∀ l:List (Addr×Int×Int),Vals (l.map fun x=>V.ref x.1) (l.map fun x=>Value.ref x.1):=fun l=>by
          induction l with
          | nil=>exact .nil
          | cons x r ih=>exact .cons rfl ih
        exact go ap
      · have q:(if b=L then some (HO.lst (ap.map fun x=>V.ref x.1)) else H b)=some o:=q
        rw [if_neg zL,I.hok.fresh hb] at q
        cases q
  refine ⟨hpP H ap L,_,I.un (un_many low I.hok kp) (hok_many low I.hok kp new),same_many low I.hok,I.hok.fresh hL,atL,?_⟩
  have go:∀ (l:List (Addr×Int×Int)),(∀ x∈l,hpP H ap L x.1=some (.tup [.int x.2.1,.int x.2.2]))→IsL X.K (hpP H ap L) ((l.map (·.2)).map pairD) (l.map fun x=>V.ref x.1):=fun l=>by
    induction l with
    | nil=>exact fun _=>rfl
    | cons x r ih=>
      intro hl
      exact IsL.cons ⟨x.1,_,rfl,.inl (.inl (hl x (by simp))),IsL.cons rfl (IsL.cons rfl rfl)⟩ (ih fun y hy=>hl y (by simp [hy]))
  exact go ap atP
end
section
variable {X:Cx}{a b e o:Expr}{f g:M R}{pos p apos cpos:Pos}
theorem dictTy {pins:List (Addr×Obj)}{σ:L2.St}{H:Hp}{s:Shared}(I:L2.Inv X pins σ H s){q:Addr}{ps:List (Int×Int)}(hq:H q=some (.ext (phN q ps))):s.TypeIs (.ref q) "dict" ∧ ∀ a,Value.ref q=.ref a→∃ ob,s.heap.get? a=some ob∧ob.dict=none:=by
  obtain ⟨z,kvs,hd,hn⟩:=dict_nums I hq
  exact ⟨hd.typeIs,hd.mapOf.noDict⟩
noncomputable def twoI:List Slot→Option (Int×Int):=fun ss=>match ss with
  | [.val (.int k),.val (.int n)]=>some (k,n)
  | _=>none
theorem twoI_of {ss:List Slot}{q:Int×Int}(h:twoI ss=some q):ss=[.val (.int q.1),.val (.int q.2)]:=by
  unfold twoI at h
  split at h
  · cases h; rfl
  · cases h
noncomputable def mGetN (i:Nat)(m:M (List R)):M R:=fun ρ=>(nnAt ρ i).bind fun _=>(m ρ).bind fun x=>(drs x.2 x.1).bind fun ss=>(twoI ss).bind fun q=>(nnAt x.2 i).bind fun ps=>some (.of (.val (.int ((getN ps q.1).getD q.2))),x.2)
theorem q_getN {i:Nat}{m:M (List R)}(ho:PE X o (tVar i))(ha:QA X [a,b] m)
    (hbase:attributeBase o "get" X.env (eval o X.env)=eval o X.env:=by rfl)
    (hfew:((backTo cpos (starEach [a,b] X.env)).all (fun x=>!x.1) && (backToKw cpos (keywordEach [] X.env)).all (fun x=>x.1.isSome)
      && decide ([a,b].length+([]:List Keyword).length+(if ([]:List Keyword).isEmpty then 0 else 1) < 30))=true:=by rfl)
    (hline:(apos.endLine == cpos.line)=true:=by rfl) (hs:starEach [a,b] X.env=(false,eval a X.env)::starEach [b] X.env:=by rfl) (hplain:(backTo cpos (starEach [b] X.env)).any (·.1)=false:=by rfl):
    QE X (.Call (.Attribute o "get" apos) [a,b] [] cpos) (mGetN i m):=by
  intro pins s σ H Q I h
  obtain ⟨B,ρ,O,fp,r,ρ',R,hf,k⟩:=h
  obtain ⟨ps0,q0,hf⟩:=bind_some hf
  obtain ⟨⟨rs,ρ1⟩,q1,hf⟩:=bind_some hf
  obtain ⟨ss,q2,hf⟩:=bind_some hf
  obtain ⟨⟨kk,n⟩,q4,hf5⟩:=bind_some hf
  obtain ⟨ps,q3,hf6⟩:=bind_some hf5
  clear hf hf5
  rw [twoI_of q4] at q2
  cases hf6
  obtain ⟨vo,e1,q,rfl,h4,_⟩:=R.slot i _ (nnAt_of q0)
  refine wpAny_Call_method_late hbase hfew hline rfl (thn (ho pins s σ H _ I (show tVar i σ H (fun v H1=>v=.ref q∧H1=H) from ⟨.ref q,e1,rfl,rfl⟩)) fun v s1 zq=>?_)
  obtain ⟨x,H1,I1,r1,z1,z2⟩:=zq
  subst z1 z2
  have r1:v=Value.ref q:=r1
  subst r1
  obtain ⟨t1,t2⟩:=dictTy I1 h4
  refine ⟨"dict","dict.get",PySem.F.plainAttrs_dict,PySem.F.slot_dict_get,PySem.F.type_dict_get,t1,t2,?_⟩
  have hA:=ha cpos pins s1 σ H1 (fun vs H2=>∃ O2 fp2,Rel X.K B ρ1 σ H2 O2 fp2∧ResL X.K H2 O2 fp2 σ (fl O fp) rs vs∧Fr H1 O fp H2 O2 fp2) I1 ⟨B,ρ,O,fp,rs,ρ1,R,q1,fun vs H2 O2 fp2 R2 k2 F2=>⟨O2,fp2,R2,k2,F2⟩⟩
  rw [hs] at hA ⊢
  refine Calls.callWith_builtin (by show (false || (backTo cpos (starEach [b] X.env)).any (·.1))=false; rw [hplain]<;>rfl) (Calls.evalArgs_plain ?_)
  refine thn hA fun us s2 zq=>?_
  obtain ⟨vs,H2,I2,r2,O2,fp2,R2,k2,F2⟩:=zq
  obtain ⟨vo',e3,q',e4,h5,_⟩:=R2.slot i _ (nnAt_of q3)
  rw [e1] at e3; cases e3; cases e4
  obtain ⟨u1,u2,rfl,d1,d2⟩:=rd2 (ResL.rd R2 k2 q2)
  have d1:u1=.int kk:=d1
  have d2:u2=.int n:=d2
  subst d1 d2
  obtain ⟨w1,w2,rfl,⟨t3,rfl⟩,⟨t4,rfl⟩⟩:=vals2 r2
  obtain ⟨z,kvs,hd,hn⟩:=dict_nums I2 h5
  have hv:=hn.get (k:=kk)
  refine call_meetsIn PySem.F.slot_dict_get hd.typeIs PySem.F.entry_dict_get (PySem.F.args_dict_get_3 _ _ _) (meets_dict_get_default (intKind X.prog X.w) q (int_is (X:=X)) z (.int n t4)) ⟨_,hd.mapOf,?_⟩
  show EP _ _ _ _ _ _
  cases ez:getN ps kk with
  | none=>
    rw [ez] at hv k
    have hv:valueAt kvs kk=none:=hv
    rw [hv]
    exact ⟨.int n,H2,I2.tok _,⟨t4,rfl⟩,k _ H2 O2 fp2 R2 ⟨[],⟨rfl,rfl⟩,List.nodup_nil,fun a z=>by simp at z⟩ F2⟩
  | some m=>
    rw [ez] at hv k
    obtain ⟨t5,hv⟩:=hv
    rw [hv]
    exact ⟨.int m,H2,I2.tok _,⟨t5,rfl⟩,k _ H2 O2 fp2 R2 ⟨[],⟨rfl,rfl⟩,List.nodup_nil,fun a z=>by simp at z⟩ F2⟩
noncomputable def mItems (i:Nat):M R:=fun ρ=>(nnAt ρ i).bind fun ps=>if ps.length < 64 then some (.of (.own ((srtP ps).map pairD)),ρ) else none
theorem q_items {i:Nat}{p3:Pos}(hc:X.calm=true)(hg:Gl X "sorted")(hm:X.mg "sorted" = none)(ho:PE X o (tVar i))
    (hbase:attributeBase o "items" X.env (eval o X.env)=eval o X.env:=by rfl) (hline:(apos.endLine == cpos.line)=true:=by rfl)
    (hs:starEach [Expr.Call (.Attribute o "items" apos) [] [] cpos] X.env=[(false,eval (Expr.Call (.Attribute o "items" apos) [] [] cpos) X.env)]:=by rfl):
    QE X (.Call (.Name "sorted" p3) [.Call (.Attribute o "items" apos) [] [] cpos] [] pos) (mItems i):=by
  intro pins s σ H Q I h
  obtain ⟨B,ρ,O,fp,r,ρ',R,hf,k⟩:=h
  obtain ⟨ps,q0,hf⟩:=bind_some hf
  split at hf
  · rename_i hl
    cases hf
    obtain ⟨vo,e1,q,rfl,h4,_⟩:=R.slot i _ (nnAt_of q0)
    refine PyProof.Rows.Call_ (ld_blt I hg hm (show bootBuiltins "sorted" = some (.builtin "sorted") by decide +kernel) (PyProof.Rows.callWith_builtin1 ?_ (by rw [hs]; rfl) rfl))
    rw [hs]
    show wpAny _ _ (spliced [(false,_)]) _ _ s
    refine Calls.spliced_cons ?_
    refine wpAny_Call_method0_late hbase hline (thn (ho pins s σ H _ I (show tVar i σ H (fun v H1=>v=.ref q∧H1=H) from ⟨.ref q,e1,rfl,rfl⟩)) fun v s1 zq=>?_)
    obtain ⟨x,H1,I1,r1,z1,z2⟩:=zq
    subst z1 z2
    have r1:v=Value.ref q:=r1
    subst r1
    obtain ⟨t1,t2⟩:=dictTy I1 h4
    obtain ⟨z,kvs,hd,hn⟩:=dict_nums I1 h4
    refine ⟨"dict","dict.items",PySem.F.plainAttrs_dict,PySem.F.slot_dict_items,PySem.F.type_dict_items,t1,t2,Calls.callWith_builtin rfl (PySem.evalArgs_none ?_)⟩
    refine call_meetsIn PySem.F.slot_dict_items hd.typeIs PySem.F.entry_dict_items (PySem.F.args_dict_items_1 _) (meets_dict_items (intKind X.prog X.w) q z) ⟨⟨kvs,hd⟩,?_⟩
    refine Calls.spliced_nil ?_
    have kp0:∀ b o,s1.heap.get? b=some o→(s1.heap.push { cls:=.type "dict_items",data:=.fields #[.ref q] }).get? b=some o:=fun b o e=>Heap.get?_push_of_some _ e
    have I2:L2.Inv X pins σ H1 { s1 with heap:=s1.heap.push { cls:=.type "dict_items",data:=.fields #[.ref q] },toks:=s1.toks }:=I1.kept kp0
    obtain ⟨z2,kvs2,hd2,hn2⟩:=dict_nums I2 h4
    have hD:Se.DN X.prog X.w (s1.heap.push { cls:=.type "dict_items",data:=.fields #[.ref q] }) q ps:=⟨kvs2,hd2,hn2.len,hn2.at⟩
    refine Se.sorted_items (s:={ s1 with heap:=s1.heap.push { cls:=.type "dict_items",data:=.fields #[.ref q] },toks:=s1.toks }) (I2.ok.hd hc) ⟨_,Heap.get?_push_size _ rfl,rfl,rfl⟩ hD hl fun L out e h' qs hL kp gL pr nw pm up=>?_
    have eq:=srtP_eq hD.keys pm up
    obtain ⟨H3,vs,I3,sm,nL,aL,il⟩:=items_post (t':=s1.toks) I2 hL kp gL pr nw (by rw [pm.length_eq]; exact Nat.le_trans (Nat.le_of_lt hl) (by rw [sizeLine_eq]; decide))
    rw [eq] at il
    have g:Good X.K H1 (.own ((srtP ps).map pairD)) Q:=R.good (fun v H' O' R' k' F'=>k v H' O' fp R' k' F') True.intro
    exact ⟨.ref L,H3,I3,rfl,g L vs H3 sm nL aL il⟩
  · cases hf
end
end Mi
namespace Mi
open PySem L2
open PySem.Spec
variable {K:PySem.W.Frag}{H H':Hp}{O O':Addr→Prop}{fp fp':Nat→List Addr}{B:Hp}{ρ ρ':En}{σ:L2.St}
theorem ints_vals:∀ {us:List Value} {ns:List Int},PyProof.Rows.IntsAre us ns→Vals (ns.map V.int) us
  | _,_,.nil=>.nil
  | _,_,.cons n t r=>.cons ⟨t,rfl⟩ (ints_vals r)
theorem met_mem (val:Nat→Int):∀ (i:Nat) (k:Int),k∈PyProof.Rows.firstMet val i↔k∈(List.range i).map val:=fun i k=>by
  have h:=PyProof.Rows.firstMet_any val i k
  have e1:(PyProof.Rows.firstMet val i).any (· == k)=true↔k∈PyProof.Rows.firstMet val i:=by
    rw [List.any_eq_true]
    exact ⟨fun ⟨x,h1,h2⟩=>by rw [←eq_of_beq h2]; exact h1,fun h=>⟨k,h,by simp⟩⟩
  have e2:((List.range i).map val).any (· == k)=true↔k∈(List.range i).map val:=by
    rw [List.any_eq_true]
    exact ⟨fun ⟨x,h1,h2⟩=>by rw [←eq_of_beq h2]; exact h1,fun h=>⟨k,h,by simp⟩⟩
  rw [←e1,h,e2]
theorem met_nodup (val:Nat→Int):∀ i:Nat,(PyProof.Rows.firstMet val i).Nodup
  | 0=>List.nodup_nil
  | i+1=>by
    rw [PyProof.Rows.firstMet_succ]
    unfold PyProof.Rows.step_dedup
    split
    · exact met_nodup val i
    · rename_i h
      rw [List.nodup_append]
      refine ⟨met_nodup val i,by simp,fun a ha b hb=>?_⟩
      have:b=val i:=by simpa using hb
      subst this
      intro z
      subst z
      exact h (List.any_eq_true.mpr ⟨_,ha,by simp⟩)
theorem range_getD (ns:List Int):(List.range ns.length).map (fun i=>ns.getD i 0)=ns:=by
  refine List.ext_getElem (by simp) fun i h1 h2=>?_
  simp [List.getD_eq_getElem?_getD,h2]
theorem up_of {l:List Int}(nd:l.Nodup)(h:l.Pairwise (·≤·)):l.Pairwise (· < ·):=by
  have:=List.pairwise_and_iff.mpr ⟨h,nd⟩
  exact this.imp fun ⟨a,b⟩=>by lia
section
variable {X:Cx}{a b e o:Expr}{f g:M R}{pos pos2 p p2 apos cpos:Pos}
theorem pe_sort_set {ta:TA}(hc:X.calm=true)(hg:Gl X "sorted")(hm:X.mg "sorted" = none)(hg2:Gl X "set")(hm2:X.mg "set" = none)(ha:PA X [a] ta)(hs:starEach [a] X.env=[(false,eval a X.env)]:=by rfl)
    (hs2:starEach [Expr.Call (.Name "set" p2) [a] [] pos2] X.env=[(false,eval (Expr.Call (.Name "set" p2) [a] [] pos2) X.env)]:=by rfl):
    PE X (.Call (.Name "sorted" p) [.Call (.Name "set" p2) [a] [] pos2] [] pos) (fun σ H Q=>ta σ H fun vs H1=>∃ (t:Addr) (ns:List Int),vs=[.ref t]∧ns.length < 4000∧(srtS ns).length < 64∧SqL X.K H1 t (ns.map .int)∧∀ l,H1 l=none→Q (.ref l) (L2.upd H1 l (.lst ((srtS ns).map .int)))):=by
  intro pins s σ H Q I h
  refine PyProof.Rows.Call_ (ld_blt I hg hm (show bootBuiltins "sorted" = some (.builtin "sorted") by decide +kernel) (PyProof.Rows.callWith_builtin1 ?_ (by rw [hs2]; rfl) rfl))
  rw [hs2]
  show wpAny _ _ (spliced [(false,_)]) _ _ s
  refine Calls.spliced_cons ?_
  refine PyProof.Rows.Call_ (ld_blt I hg2 hm2 (show bootBuiltins "set" = some (.type "set") by decide +kernel) (PyProof.Rows.callWith_type1 (thn (ha pos2 pins s σ H _ I h) fun us s1 ⟨vs,H1,I1,r1,q1⟩=>?_) (by rw [hs]; rfl) rfl))
  obtain ⟨t,ns,e,hn,h64,hq,q⟩:=q1
  subst e
  obtain ⟨u,rfl,ru⟩:=vals1 r1
  cases ru
  obtain ⟨its,rv,pp,hz⟩:=I1.list hq
  have hl:=pp.isList
  have hlen:=rv.length
  rw [List.length_map] at hlen
  have hi:PyProof.Rows.IntsAre its.toArray.toList ns:=ints_are rv
  refine Se.call_setP (I1.ok.hd hc) hl hi (by simp [scanBound]; lia) fun h' tk st kp=>?_
  refine Calls.spliced_nil ?_
  have sz:its.toArray.size=ns.length:=by simp [hlen]
  rw [sz] at st
  have kp':∀ b o,s1.heap.get? b=some o→h'.get? b=some o:=fun b o e=>kp b o (Heap.lt_size e) e
  have I2:L2.Inv X pins σ H1 { s1 with heap:=h',toks:=tk }:=I1.kept kp'
  have mem:∀ x,x∈Se.dd ns ns.length↔x∈ns:=fun x=>by
    have:=met_mem (fun i=>ns.getD i 0) ns.length x
    rw [range_getD] at this
    exact this
  have nd:(Se.dd ns ns.length).Nodup:=met_nodup _ _
  have l64:(Se.dd ns ns.length).length < 64:=by
    refine Nat.lt_of_le_of_lt (List.Nodup.length_le_of_subset nd fun x hx=>?_) h64
    exact srtS_mem.mpr ((mem x).mp hx)
  refine Se.sorted_set (s:={ s1 with heap:=h',toks:=tk }) (I2.ok.hd hc) st l64 fun L out e s' ns' hL stay gL iA pm up=>?_
  have eqs:ns'=srtS ns:=srtS_eq (up_of (pm.nodup_iff.mpr nd) up) fun x=>pm.mem_iff.trans (mem x)
  subst eqs
  have nL:H1 L=none:=I2.hok.fresh hL
  have low:∀ b,b < h'.objs.size→L2.upd H1 L (.lst ((srtS ns).map .int)) b=H1 b:=fun b hb=>upd_ne (Nat.ne_of_lt (Nat.lt_of_lt_of_le hb hL))
  refine ⟨.ref L,L2.upd H1 L (.lst ((srtS ns).map .int)),?_,rfl,q L nL⟩
  refine I2.call' (ch:=[]) stay.os (un_many (s:={ s1 with heap:=h',toks:=tk }) low I2.hok stay.heap) (hok_many (s:={ s1 with heap:=h',toks:=tk }) low I2.hok stay.heap fun b o hb eo=>?_) (by rw [stay.gens]; exact I2.bare) (fun b hb=>nomatch hb)
  by_cases zb:b=L
  · subst zb
    rw [upd_same] at eo
    cases eo
    refine ⟨by rw [List.length_map]; exact Nat.le_trans (Nat.le_of_lt h64) (by rw [sizeLine_eq]; decide),out.toList,e,ints_vals iA,gL⟩
  · rw [upd_ne zb,I2.hok.fresh hb] at eo
    cases eo
noncomputable def gSrt:List Slot→Option Slot:=fun ss=>match ss with
  | [.fz ds]=>(intsOf ds).bind fun ns=>if ns.length < 4000∧(srtS ns).length < 64 then some (.own ((srtS ns).map .int)) else none
  | _=>none
theorem sr_srt:SR K gSrt (fun xs H Q=>∃ (t:Addr) (ns:List Int),xs=[.ref t]∧ns.length < 4000∧(srtS ns).length < 64∧SqL K H t (ns.map .int)∧∀ l,H l=none→Q (.ref l) (L2.upd H l (.lst ((srtS ns).map .int)))):=fun H ss vs s Q hr h k=>by
  unfold gSrt at h
  split at h
  · rename_i ds
    obtain ⟨ns,h1,h⟩:=bind_some h
    split at h
    · rename_i hn
      cases h
      obtain ⟨v,us,rfl,⟨⟨a,ws,rfl,q,l⟩,_⟩,h2⟩:=hr
      have h2:us=[]:=h2
      subst h2
      rw [intsOf_eq h1] at l
      rw [l.ints] at q
      exact ⟨a,ns,rfl,hn.1,hn.2,q.sq,fun l hl=>k l _ _ (same_new hl _) hl upd_same (IsL.ofInts _)⟩
    · cases h
  · cases h
theorem q_sort_set {f:M (List R)}(hc:X.calm=true)(hg:Gl X "sorted")(hm:X.mg "sorted" = none)(hg2:Gl X "set")(hm2:X.mg "set" = none)(ha:QA X [a] f)(hs:starEach [a] X.env=[(false,eval a X.env)]:=by rfl)
    (hs2:starEach [Expr.Call (.Name "set" p2) [a] [] pos2] X.env=[(false,eval (Expr.Call (.Name "set" p2) [a] [] pos2) X.env)]:=by rfl):
    QE X (.Call (.Name "sorted" p) [.Call (.Name "set" p2) [a] [] pos2] [] pos) (mOpF gSrt f):=q_opN sr_srt (pe_sort_set hc hg hm hg2 hm2 ha hs hs2)
inductive rCount  (x:V) (vs:List V) (H:Hp) (Q:VK):Prop
  | mk:∀ (l:Addr) (ns:List Int) (n:Int),(x=.ref l)→(vs=[.int n])→(H l=some (.lst (ns.map .int)))→(Q (.int (ns.count n:Nat)) H)→rCount x vs H Q
theorem count_is (n:Int)(t:Tok):∀ {us:List Value} {ns:List Int},PyProof.Rows.IntsAre us ns→us.countP (fun y=>match y with | .int m _=>m == n | _=>false)=ns.count n
  | _,_,.nil=>rfl
  | _,_,.cons m u r=>by
    rw [List.countP_cons,count_is n t r,List.count_cons]
theorem ints_at:∀ {us:List Value} {ns:List Int},PyProof.Rows.IntsAre us ns→∀ y∈us,∃ k t,y=Value.int k t
  | _,_,.nil,y,h=>by simp at h
  | _,_,.cons k t r,y,h=>by
    rcases List.mem_cons.mp h with rfl | h
    · exact ⟨k,t,rfl⟩
    · exact ints_at r y h
theorem mt_count:MtR X "list.count" rCount:=by
  intro pins s σ H x vs v us Q I rx rv h
  obtain ⟨l,ns,n,rfl,rfl,hH,q⟩:=h
  cases rx
  obtain ⟨u,rfl,⟨t,rfl⟩⟩:=rv.one
  obtain ⟨z,its,m,r,hl,e⟩:=I.lstM hH
  have ia:=ints_are r
  refine call_meets PySem.F.slot_list_count ⟨_,e,rfl⟩ PySem.F.entry_list_count (PySem.F.args_list_count_2 _ _) (PySem.SeqAt.list_countAt l its.toArray m none #[] (.int n t) (fun y=>match y with | .int m _=>m == n | _=>false)) ⟨e,fun y hy=>?_,?_⟩
  · have hy:y∈its:=by simpa using hy
    obtain ⟨k,t2,rfl⟩:=ints_at ia y hy
    exact PySem.SeqAt.EqAt.int_int k t2 n t
  · refine ⟨.int _,H,I.tok _,⟨_,rfl⟩,?_⟩
    show Q (.int ((List.countP _ its.toArray.toList:Nat):Int)) H
    rw [show its.toArray.toList=its from rfl,count_is n t ia]
    exact q
noncomputable def gCount:List D→List Slot→Option (D×List D):=fun ds ss=>match ss with
  | [.val (.int n)]=>(intsOf ds).bind fun ns=>some (.int (ns.count n:Nat),ds)
  | _=>none
theorem upd_self {p:Addr}{o:HO}(h:H p=some o):L2.upd H p o=H:=funext fun b=>by
  by_cases e:b=p
  · rw [e,upd_same,h]
  · rw [upd_ne e]
theorem mr_count:MR' K gCount rCount:=fun H p vs ds ss xs d ds' Q hp hl hr hg k=>by
  unfold gCount at hg
  split at hg
  · rename_i n
    obtain ⟨ns,h1,hg⟩:=bind_some hg
    cases hg
    obtain ⟨v,us,rfl,hv,hu⟩:=hr
    have hu:us=[]:=hu
    have hv:v=.int n:=hv.1
    subst hu hv
    have hl':=hl
    rw [intsOf_eq h1] at hl'
    have ev:=hl'.ints
    subst ev
    refine ⟨p,ns,n,rfl,rfl,hp,?_⟩
    have:=k (.int (ns.count n:Nat)) (ns.map .int) hl fun _=>rfl
    rw [upd_self hp] at this
    exact this
  · cases hg
theorem items_vals {n:Nat}{acc:Array Value}(h:ItemsOf (fun i v=>∃ t,v=.int ((0:Int)+i*1) t) acc n):Vals ((List.range n).map fun (i:Nat)=>V.int i) acc.toList:=by
  obtain ⟨h1,h2⟩:=h
  have go:∀ (l:List Value) (k:Nat),(∀ j v,l[j]?=some v→∃ t,v=Value.int ((k+j:Nat):Int) t)→Vals ((List.range' k l.length).map fun (i:Nat)=>V.int i) l:=fun l=>by
    induction l with
    | nil=>exact fun k _=>.nil
    | cons v l ih=>
      intro k hk
      rw [List.length_cons,List.range'_succ,List.map_cons]
      refine .cons ?_ (ih (k+1) fun j u hj=>?_)
      · obtain ⟨t,e⟩:=hk 0 v rfl
        exact ⟨t,by simpa using e⟩
      · obtain ⟨t,e⟩:=hk (j+1) u (by simpa using hj)
        exact ⟨t,by rw [e]; congr 2; lia⟩
  have:=go acc.toList 0 fun j v hj=>by
    obtain ⟨t,e⟩:=h2 j v (by simpa using hj)
    exact ⟨t,by rw [e]; congr 1; simp⟩
  rw [Array.length_toList,h1,←List.range_eq_range'] at this
  exact this
theorem pe_list_range {ta:TA}(hc:X.calm=true)(hg:Gl X "list")(hm:X.mg "list" = none)(hg2:Gl X "range")(hm2:X.mg "range" = none)(ha:PA X [a] ta)(hs:starEach [a] X.env=[(false,eval a X.env)]:=by rfl)
    (hs2:starEach [Expr.Call (.Name "range" p2) [a] [] pos2] X.env=[(false,eval (Expr.Call (.Name "range" p2) [a] [] pos2) X.env)]:=by rfl):
    PE X (.Call (.Name "list" p) [.Call (.Name "range" p2) [a] [] pos2] [] pos) (fun σ H Q=>ta σ H fun vs H1=>∃ n:Nat,vs=[.int n]∧n < big∧∀ l,H1 l=none→Q (.ref l) (L2.upd H1 l (.lst ((List.range n).map fun (i:Nat)=>V.int i)))):=by
  intro pins s σ H Q I h
  refine PyProof.Rows.Call_ (ld_blt I hg hm (show bootBuiltins "list" = some (.type "list") by decide +kernel) (PyProof.Rows.callWith_type1 ?_ (by rw [hs2]; rfl) rfl))
  rw [hs2]
  show wpAny _ _ (spliced [(false,_)]) _ _ s
  refine Calls.spliced_cons ?_
  refine PyProof.Rows.Call_ (ld_blt I hg2 hm2 (show bootBuiltins "range" = some (.type "range") by decide +kernel) (PyProof.Rows.callWith_type1 (thn (ha pos2 pins s σ H _ I h) fun us s1 ⟨vs,H1,I1,r1,q1⟩=>?_) (by rw [hs]; rfl) rfl))
  obtain ⟨n,e,hn,q⟩:=q1
  subst e
  obtain ⟨u,rfl,⟨t,rfl⟩⟩:=vals1 r1
  refine call_range_1 (Calls.spliced_nil ?_)
  have b63:=big_63 hn
  have hbig:(n:Int) < 2 ^ 62:=by
    unfold big at hn
    lia
  refine call_list_range (n:=n) (I1.ok.hd hc) (IsRange.new ..) (small_one (by lia) (by lia) (by lia) hbig) (by rw [rangeSize_one]; split<;>lia) (by unfold big at hn; lia) fun h' tk acc' c' kp gL its=>?_
  have kp0:∀ b o,s1.heap.get? b=some o→h'.get? b=some o:=fun b o e=>kp b o (Heap.get?_push_of_some _ e)
  have hsz:∀ o,s1.heap.objs.size≤(s1.heap.push o).objs.size:=fun o=>by rw [Heap.size_push]; exact Nat.le_succ _
  exact ⟨.ref _,_,I1.laid (o:=.lst ((List.range n).map fun (i:Nat)=>V.int i)) kp0 (hsz _) ⟨by rw [List.length_map,List.length_range]; exact Nat.le_of_lt (big_line hn),acc'.toList,c',items_vals its,gL⟩,rfl,q _ (I1.hok.fresh (hsz _))⟩
noncomputable def gLRng:List Slot→Option Slot:=fun ss=>match ss with
  | [.val (.int n)]=>if 0≤n∧n < big then some (.own ((List.range n.toNat).map fun (i:Nat)=>.int i)) else none
  | _=>none
theorem isL_range (l:List Nat):IsL K H (l.map fun (i:Nat)=>D.int i) (l.map fun (i:Nat)=>V.int i):=by
  induction l with
  | nil=>exact rfl
  | cons x r ih=>exact IsL.cons rfl ih
theorem sr_lrng:SR K gLRng (fun xs H Q=>∃ n:Nat,xs=[.int n]∧n < big∧∀ l,H l=none→Q (.ref l) (L2.upd H l (.lst ((List.range n).map fun (i:Nat)=>V.int i)))):=fun H ss vs s Q hr h k=>by
  unfold gLRng at h
  split at h
  · rename_i n
    split at h
    · rename_i hn
      cases h
      obtain ⟨v,us,rfl,h1,h2⟩:=hr
      have h2:us=[]:=h2
      have h1:v=.int n:=h1.1
      subst h1 h2
      exact ⟨n.toNat,by rw [Int.toNat_of_nonneg hn.1],by lia,fun l hl=>k l _ _ (same_new hl _) hl upd_same (isL_range _)⟩
    · cases h
  · cases h
theorem q_list_range {f:M (List R)}(hc:X.calm=true)(hg:Gl X "list")(hm:X.mg "list" = none)(hg2:Gl X "range")(hm2:X.mg "range" = none)(ha:QA X [a] f)(hs:starEach [a] X.env=[(false,eval a X.env)]:=by rfl)
    (hs2:starEach [Expr.Call (.Name "range" p2) [a] [] pos2] X.env=[(false,eval (Expr.Call (.Name "range" p2) [a] [] pos2) X.env)]:=by rfl):
    QE X (.Call (.Name "list" p) [.Call (.Name "range" p2) [a] [] pos2] [] pos) (mOpF gLRng f):=q_opN sr_lrng (pe_list_range hc hg hm hg2 hm2 ha hs hs2)
theorem qx_exprE {W:Str→Hp→Prop}{f:MXE}(he:QEX X W e f)(hs:swapsWith e none pos.line X.env=pure false:=by rfl):QX X W (.Expr e pos) (xExpr f):=
  (ps_expr he hs).imp fun D σ H zq=>by
    obtain ⟨B,ρ,O,fp,o,R,hg,k⟩:=zq
    obtain ⟨r,h1,hg⟩:=bind_some hg
    refine ⟨B,ρ,O,fp,r,R,h1,?_⟩
    cases r with
    | x c=>
      cases hg
      exact k
    | v r ρ1=>
      cases hg
      exact fun v H' O' fp' R' k' F'=>k σ H' O' fp' R' F'
end
end Mi
namespace Mi
open PySem L2
open PySem.Spec
noncomputable def pairE:Expr→Option (Int×Int)
  | .Tuple [.Constant (.int a) _ _,.Constant (.int b) _ _] _ _=>some (a,b)
  | _=>none
noncomputable def pairsE:List Expr→Option (List (Int×Int))
  | []=>some []
  | e::es=>(pairE e).bind fun q=>(pairsE es).bind fun r=>some (q::r)
noncomputable def rowE:Expr→Option (List (Int×Int))
  | .List es _=>pairsE es
  | _=>none
noncomputable def rowsE:List Expr→Option (List (List (Int×Int)))
  | []=>some []
  | e::es=>(rowE e).bind fun q=>(rowsE es).bind fun r=>some (q::r)
noncomputable def mPrs:List (Int×Int)→M (List R)
  | []=>mNil
  | q::r=>mCons (mOpF gTup' (mCons (mC (.int q.1)) (mCons (mC (.int q.2)) mNil))) (mPrs r)
noncomputable def mPrss:List (List (Int×Int))→M (List R)
  | []=>mNil
  | q::r=>mCons (mOpF gLst' (mPrs q)) (mPrss r)
theorem qa_pairs {X:Cx}:∀ {es:List Expr} {xs:List (Int×Int)},pairsE es=some xs→QA X es (mPrs xs)
  | [],xs,h=>by
    have h:some []=some xs:=h
    cases h
    exact qa_nil
  | e::es,xs,h=>by
    obtain ⟨q,h1,h⟩:=bind_some h
    obtain ⟨r,h2,h⟩:=bind_some h
    cases h
    unfold pairE at h1
    split at h1
    · cases h1
      exact qa_cons (q_tup (qa_cons q_int (qa_cons q_int qa_nil))) (qa_pairs h2)
    · cases h1
theorem qa_rows {X:Cx}:∀ {es:List Expr} {xs:List (List (Int×Int))},rowsE es=some xs→QA X es (mPrss xs)
  | [],xs,h=>by
    have h:some []=some xs:=h
    cases h
    exact qa_nil
  | e::es,xs,h=>by
    obtain ⟨q,h1,h⟩:=bind_some h
    obtain ⟨r,h2,h⟩:=bind_some h
    cases h
    unfold rowE at h1
    split at h1
    · exact qa_cons (q_lst (qa_pairs h1)) (qa_rows h2)
    · cases h1
section
variable {X:Cx}{a b:Expr}{f g:M R}{pos:Pos}{K:PySem.W.Frag}
theorem cat_tup0 {prog:Program}{w:World}{A:Around}{E:Value→Shared→Prop}{s:Shared}{t b:Addr}{ws:List Value}{Q:Value→Shared→Prop}(ht:PyProof.Rows.IsTup s.heap t ([]:List Value).toArray)(hb:PyProof.Rows.IsTup s.heap b ws.toArray)(h:Q (.ref b) s):
    wpAny (model prog w) A (binaryOp .Add (.ref t) (.ref b)) Q E s:=by
  obtain ⟨⟨cls,dd,data,sl⟩,ho,hc,n,hd⟩:=id ht
  obtain ⟨⟨cls2,dd2,data2,sl2⟩,ho2,hc2,n2,hd2⟩:=id hb
  simp only at hc hd hc2 hd2
  subst hc hd hc2 hd2
  exact concat_meets ⟨_,ho,rfl⟩ ⟨_,ho2,rfl⟩ noFill_tuple_add seq_tuple_add PySem.F.slot_tuple_add PySem.F.entry_tuple_add (PySem.F.args_tuple_add_2 _ _)
    (PyProof.Rows.tuple_addW0 t b ([]:List Value).toArray ws.toArray n n2 dd dd2 sl sl2 rfl) ⟨ho,ho2,h⟩
noncomputable def rCatA (K:PySem.W.Frag):R2:=fun x y H Q=>rCatT K x y H Q∨∃ a b ys,x=.ref a∧y=.ref b∧SqT K H a []∧SqT K H b ys∧Q (.ref b) H
theorem op_catA:OpR X (binaryOp .Add) (rCatA X.K):=by
  intro pins s σ H x y v u Q I rx ry h
  rcases h with h | ⟨a,b,ys,rfl,rfl,ha,hb,q⟩
  · exact op_catT pins s σ H x y v u Q I rx ry h
  · cases rx
    cases ry
    obtain ⟨its,r1,p1,_⟩:=I.tuple ha
    obtain ⟨its2,r2,p2,_⟩:=I.tuple hb
    cases r1
    exact cat_tup0 p1 p2 ⟨.ref b,H,I,rfl,q⟩
noncomputable def gCatA:List Slot→Option Slot:=fun ss=>match ss with
  | [.val (.tup xs),.val (.tup ys)]=>if xs.length+ys.length < big then some (.val (.tup (xs++ys))) else none
  | _=>none
theorem sr_catA:SR K gCatA (r2 (rCatA K)):=fun H ss vs s Q hr h k=>by
  unfold gCatA at h
  split at h
  · rename_i xs ys
    split at h
    · rename_i hz
      cases h
      by_cases z:xs=[]
      · subst z
        obtain ⟨u,v,rfl,⟨a,ws,rfl,q,l⟩,⟨b,zs,rfl,q',l'⟩⟩:=rd2 hr
        have l:ws=[]:=l
        subst l
        exact ⟨_,_,rfl,.inr ⟨a,b,zs,rfl,rfl,q,q',k _ _ (Same.refl _) ⟨b,zs,rfl,q',l'⟩⟩⟩
      · have e:gCat [.val (.tup xs),.val (.tup ys)]=some (.val (.tup (xs++ys))):=if_pos ⟨z,hz⟩
        obtain ⟨x,y,e1,e2⟩:=sr_cat H _ vs _ Q hr e k
        exact ⟨x,y,e1,.inl e2⟩
    · cases h
  · cases h
theorem q_catA (ha:QE X a f)(hb:QE X b g):QE X (.BinOp a .Add b pos) (mOpF gCatA (mCons f (mCons g mNil))):=q_bin op_catA sr_catA ha hb
end
noncomputable def getS (B:List Stmt):List Expr:=match B.getD 2 (.Pass ⟨0,0,0,0⟩) with
  | .Assign _ (.Subscript (.List es _) _ _) _=>es
  | _=>[]
noncomputable def getF (B:List Stmt):List Expr:=match B.getD 10 (.Pass ⟨0,0,0,0⟩) with
  | .If _ (.Assign _ (.Subscript (.Subscript (.List es _) _ _) _ _) _::_) _ _=>es
  | _=>[]
noncomputable def putS (es:List Expr):Stmt→Stmt
  | .Assign ts (.Subscript (.List _ p) i r) q=>.Assign ts (.Subscript (.List es p) i r) q
  | st=>st
noncomputable def putF (es:List Expr):Stmt→Stmt
  | .If c (.Assign ts (.Subscript (.Subscript (.List _ p) i r) i2 r2) q::b) o p2=>.If c (.Assign ts (.Subscript (.Subscript (.List es p) i r) i2 r2) q::b) o p2
  | st=>st
noncomputable def putL (es1 es2:List Expr):List Stmt→List Stmt
  | a0::a1::a2::a3::a4::a5::a6::a7::a8::a9::b::r=>a0::a1::putS es1 a2::a3::a4::a5::a6::a7::a8::a9::putF es2 b::r
  | B=>B
end Mi
namespace Bd
noncomputable abbrev Fn:=Int→Int→Int
noncomputable def Per (w h:Int)(f:Fn):Prop:=(∀ x y,f (x+w) y=f x y)∧∀ x y,f x (y+h)=f x y
theorem per1 {g:Int→Int}{w:Int}(p:∀ x,g (x+w)=g x)(x:Int)(k:Nat):g (x+k*w)=g x:=by
  induction k with
  | zero=>simp
  | succ k ih=>rw [show x+((k+1:Nat):Int)*w=x+k*w+w by push_cast; rw [Int.add_mul]; lia,p,ih]
theorem perk {g:Int→Int}{w:Int}(p:∀ x,g (x+w)=g x)(x k:Int):g (x+k*w)=g x:=by
  rcases Int.eq_ofNat_of_zero_le (a:=k.natAbs) (by lia) with ⟨n,hn⟩
  by_cases h:0≤k
  · have:k=(k.toNat:Int):=by lia
    rw [this]; exact per1 p x _
  · have e:x=(x+k*w)+((-k).toNat:Int)*w:=by
      have:((-k).toNat:Int)=-k:=by lia
      rw [this,Int.neg_mul]; lia
    conv=>rhs; rw [e]
    exact (per1 p _ _).symm
theorem per_mod {g:Int→Int}{w:Int}(p:∀ x,g (x+w)=g x)(x:Int):g (x % w)=g x:=by
  have e:x=x % w+(x / w)*w:=by have:=Int.emod_add_mul_ediv x w; rw [Int.mul_comm]; lia
  conv=>rhs; rw [e]
  exact (perk p _ _).symm
theorem Per.modx {w h:Int}{f:Fn}(p:Per w h f)(x y:Int):f (x % w) y=f x y:=per_mod (g:=fun x=>f x y) (fun x=>p.1 x y) x
theorem Per.mody {w h:Int}{f:Fn}(p:Per w h f)(x y:Int):f x (y % h)=f x y:=per_mod (g:=fun y=>f x y) (fun y=>p.2 x y) y
theorem Per.mod {w h:Int}{f:Fn}(p:Per w h f)(x y:Int):f (x % w) (y % h)=f x y:=by rw [p.modx,p.mody]
theorem Per.ext {w h:Int}(hw:0 < w)(hh:0 < h){f g:Fn}(p:Per w h f)(q:Per w h g)(e:∀ x y:Nat,(x:Int) < w→(y:Int) < h→f x y=g x y):f=g:=by
  funext x y
  rw [←p.mod,←q.mod]
  have h1:=Int.emod_nonneg x (show w≠0 by lia)
  have h2:=Int.emod_lt_of_pos x hw
  have h3:=Int.emod_nonneg y (show h≠0 by lia)
  have h4:=Int.emod_lt_of_pos y hh
  have:=e (x % w).toNat (y % h).toNat (by lia) (by lia)
  rw [show ((x % w).toNat:Int)=x % w by lia,show ((y % h).toNat:Int)=y % h by lia] at this
  exact this
noncomputable def num (c a b d e:Int):Int:=((a*c+b)*c+d)*c+e
noncomputable def dg (c n i j:Int):Int:=if i=0 then (if j=0 then n / c ^ 3 % c else n / c ^ 2 % c) else (if j=0 then n / c % c else n % c)
noncomputable def Col (c:Int):Prop:=c=2∨c=3
noncomputable def InR (c:Int)(f:Fn):Prop:=∀ x y,0≤f x y∧f x y < c
theorem dg_rng {c:Int}(hc:Col c)(n i j:Int):0≤dg c n i j∧dg c n i j < c:=by
  have hp:0 < c:=by rcases hc with rfl | rfl<;>lia
  unfold dg
  split<;>split<;>exact ⟨Int.emod_nonneg _ (by lia),Int.emod_lt_of_pos _ hp⟩
theorem num_rng {c a b d e:Int}(hc:Col c)(ha:0≤a∧a < c)(hb:0≤b∧b < c)(hd:0≤d∧d < c)(he:0≤e∧e < c):0≤num c a b d e∧num c a b d e < c ^ 4:=by
  unfold num
  rcases hc with rfl | rfl
  · show _∧_ < (16:Int); lia
  · show _∧_ < (81:Int); lia
theorem num_dg {c n:Int}(hc:Col c)(h0:0≤n)(h1:n < c ^ 4):num c (dg c n 0 0) (dg c n 0 1) (dg c n 1 0) (dg c n 1 1)=n:=by
  unfold num dg
  rcases hc with rfl | rfl
  · have h1:n < 16:=h1
    simp; lia
  · have h1:n < 81:=h1
    simp; lia
theorem dg_num {c a b d e:Int}(hc:Col c)(ha:0≤a∧a < c)(hb:0≤b∧b < c)(hd:0≤d∧d < c)(he:0≤e∧e < c):
    dg c (num c a b d e) 0 0=a∧dg c (num c a b d e) 0 1=b∧dg c (num c a b d e) 1 0=d∧dg c (num c a b d e) 1 1=e:=by
  unfold num dg
  rcases hc with rfl | rfl
  · simp; lia
  · simp; lia
noncomputable def bn (c:Int)(f:Fn)(X Y:Int):Int:=num c (f X Y) (f (X+1) Y) (f X (Y+1)) (f (X+1) (Y+1))
noncomputable def stp (c:Int)(r:Int→Int)(s:Int)(f:Fn):Fn:=fun x y=>dg c (r (bn c f (x - (x - s) % 2) (y - (y - s) % 2))) ((y - s) % 2) ((x - s) % 2)
theorem stp_at {c:Int}{r:Int→Int}{s:Int}{f:Fn}{X Y i j:Int}(hX:(X - s) % 2=0)(hY:(Y - s) % 2=0)(hi:i=0∨i=1)(hj:j=0∨j=1):stp c r s f (X+j) (Y+i)=dg c (r (bn c f X Y)) i j:=by
  unfold stp
  have e1:(X+j - s) % 2=j:=by lia
  have e2:(Y+i - s) % 2=i:=by lia
  rw [e1,e2,show X+j - j=X by lia,show Y+i - i=Y by lia]
theorem stp_rng {c:Int}(hc:Col c)(r:Int→Int)(s:Int)(f:Fn):InR c (stp c r s f):=fun _ _=>dg_rng hc _ _ _
theorem bn_rng {c:Int}(hc:Col c){f:Fn}(hf:InR c f)(X Y:Int):0≤bn c f X Y∧bn c f X Y < c ^ 4:=num_rng hc (hf _ _) (hf _ _) (hf _ _) (hf _ _)
theorem bn_stp {c:Int}(hc:Col c){r:Int→Int}{s:Int}{f:Fn}{X Y:Int}(hX:(X - s) % 2=0)(hY:(Y - s) % 2=0)(hr:0≤r (bn c f X Y)∧r (bn c f X Y) < c ^ 4):bn c (stp c r s f) X Y=r (bn c f X Y):=by
  have h00:=stp_at (c:=c) (r:=r) (f:=f) hX hY (.inl rfl) (.inl rfl)
  have h01:=stp_at (c:=c) (r:=r) (f:=f) hX hY (.inl rfl) (.inr rfl)
  have h10:=stp_at (c:=c) (r:=r) (f:=f) hX hY (.inr rfl) (.inl rfl)
  have h11:=stp_at (c:=c) (r:=r) (f:=f) hX hY (.inr rfl) (.inr rfl)
  simp only [Int.add_zero] at h00 h01 h10
  unfold bn at h00 h01 h10 h11 hr ⊢
  rw [h00,h01,h10,h11]
  exact num_dg hc hr.1 hr.2
theorem dg_bn {c:Int}(hc:Col c){f:Fn}(hf:InR c f){X Y i j:Int}(hi:i=0∨i=1)(hj:j=0∨j=1):dg c (bn c f X Y) i j=f (X+j) (Y+i):=by
  obtain ⟨d00,d01,d10,d11⟩:=dg_num hc (hf X Y) (hf (X+1) Y) (hf X (Y+1)) (hf (X+1) (Y+1))
  unfold bn
  rcases hi with rfl | rfl<;>rcases hj with rfl | rfl<;>(try simp only [Int.add_zero])<;>assumption
structure Inv (c:Int)(r r':Int→Int):Prop where
  rng:∀ n,0≤n→n < c ^ 4→0≤r n∧r n < c ^ 4
  rng':∀ n,0≤n→n < c ^ 4→0≤r' n∧r' n < c ^ 4
  back:∀ n,0≤n→n < c ^ 4→r' (r n)=n
  forth:∀ n,0≤n→n < c ^ 4→r (r' n)=n
theorem Inv.symm {c:Int}{r r':Int→Int}(h:Inv c r r'):Inv c r' r:=⟨h.rng',h.rng,h.forth,h.back⟩
theorem stp_back {c:Int}(hc:Col c){r r':Int→Int}(h:Inv c r r'){f:Fn}(hf:InR c f)(s:Int):stp c r' s (stp c r s f)=f:=by
  funext x y
  have eX:(x - (x - s) % 2 - s) % 2=0:=by lia
  have eY:(y - (y - s) % 2 - s) % 2=0:=by lia
  have hb:=bn_rng hc hf (x - (x - s) % 2) (y - (y - s) % 2)
  show dg c (r' (bn c (stp c r s f) (x - (x - s) % 2) (y - (y - s) % 2))) _ _=_
  rw [bn_stp hc eX eY (h.rng _ hb.1 hb.2),h.back _ hb.1 hb.2]
  rw [dg_bn hc hf (by lia) (by lia),show x - (x - s) % 2+(x - s) % 2=x by lia,show y - (y - s) % 2+(y - s) % 2=y by lia]
theorem stp_per {c:Int}{r:Int→Int}{s w h:Int}(hw:w % 2=0)(hh:h % 2=0){f:Fn}(p:Per w h f):Per w h (stp c r s f):=by
  constructor
  · intro x y
    unfold stp bn
    have e:(x+w - s) % 2=(x - s) % 2:=by lia
    rw [e,show x+w - (x - s) % 2=x - (x - s) % 2+w by lia,p.1,p.1,show x - (x - s) % 2+w+1=x - (x - s) % 2+1+w by lia,p.1,p.1]
  · intro x y
    unfold stp bn
    have e:(y+h - s) % 2=(y - s) % 2:=by lia
    rw [e,show y+h - (y - s) % 2=y - (y - s) % 2+h by lia,p.2,p.2,show y - (y - s) % 2+h+1=y - (y - s) % 2+1+h by lia,p.2,p.2]
theorem stp_par {c:Int}{r:Int→Int}{s s':Int}(h:s % 2=s' % 2)(f:Fn):stp c r s f=stp c r s' f:=by
  funext x y
  unfold stp
  rw [show (x - s) % 2=(x - s') % 2 by lia,show (y - s) % 2=(y - s') % 2 by lia]
noncomputable def mv (a b:Int)(f:Fn):Fn:=fun x y=>f (x - a) (y - b)
theorem mv_per {a b w h:Int}{f:Fn}(p:Per w h f):Per w h (mv a b f):=⟨fun x y=>by unfold mv; rw [show x+w - a=x - a+w by lia,p.1],fun x y=>by unfold mv; rw [show y+h - b=y - b+h by lia,p.2]⟩
theorem mv_rng {c a b:Int}{f:Fn}(p:InR c f):InR c (mv a b f):=fun x y=>p _ _
theorem mv_mv (a b a' b':Int)(f:Fn):mv a b (mv a' b' f)=mv (a+a') (b+b') f:=by
  funext x y; unfold mv; rw [show x - a - a'=x - (a+a') by lia,show y - b - b'=y - (b+b') by lia]
theorem mv_zero (f:Fn):mv 0 0 f=f:=by funext x y; unfold mv; rw [Int.sub_zero,Int.sub_zero]
theorem stp_mv {c:Int}{r:Int→Int}{s a b:Int}(hab:(a - b) % 2=0)(f:Fn):stp c r s (mv a b f)=mv a b (stp c r (s - a) f):=by
  funext x y
  unfold mv stp bn
  have e1:(x - a - (s - a)) % 2=(x - s) % 2:=by lia
  have e2:(y - b - (s - a)) % 2=(y - s) % 2:=by lia
  simp only []
  rw [e1,e2,show x - (x - s) % 2 - a=x - a - (x - s) % 2 by lia,show y - (y - s) % 2 - b=y - b - (y - s) % 2 by lia,
    show x - (x - s) % 2+1 - a=x - a - (x - s) % 2+1 by lia,show y - (y - s) % 2+1 - b=y - b - (y - s) % 2+1 by lia]
noncomputable def fwd (c:Int)(r:Int→Int)(m:Int):Nat→Fn→Fn
  | 0,f=>f
  | n+1,f=>stp c r (m+n) (fwd c r m n f)
theorem fwd_per {c:Int}{r:Int→Int}{w h:Int}(hw:w % 2=0)(hh:h % 2=0){f:Fn}(p:Per w h f)(m:Int):∀ n,Per w h (fwd c r m n f)
  | 0=>p
  | n+1=>stp_per hw hh (fwd_per hw hh p m n)
theorem fwd_rng {c:Int}(hc:Col c){r:Int→Int}{f:Fn}(p:InR c f)(m:Int):∀ n,InR c (fwd c r m n f)
  | 0=>p
  | n+1=>stp_rng hc _ _ _
theorem fwd_add {c:Int}{r:Int→Int}(m:Int)(f:Fn)(n:Nat):∀ k,fwd c r (m+n) k (fwd c r m n f)=fwd c r m (n+k) f
  | 0=>rfl
  | k+1=>by
    show stp c r (m+n+k) (fwd c r (m+n) k (fwd c r m n f))=stp c r (m+((n+k:Nat):Int)) (fwd c r m (n+k) f)
    rw [fwd_add m f n k,show m+((n+k:Nat):Int)=m+n+k by push_cast; lia]
theorem fwd_par {c:Int}{r:Int→Int}{m m':Int}(h:m % 2=m' % 2)(f:Fn):∀ n,fwd c r m n f=fwd c r m' n f
  | 0=>rfl
  | n+1=>by
    show stp c r (m+n) (fwd c r m n f)=stp c r (m'+n) (fwd c r m' n f)
    rw [fwd_par h f n,stp_par (s':=m'+n) (by lia)]
noncomputable def row (w:Nat)(g:Int→Int):List Int:=(List.range w).map fun (x:Nat)=>g x
noncomputable def bd (w h:Nat)(f:Fn):List (List Int):=(List.range h).map fun (y:Nat)=>row w (fun x=>f x y)
theorem row_len (w:Nat)(g:Int→Int):(row w g).length=w:=by simp [row]
theorem bd_len (w h:Nat)(f:Fn):(bd w h f).length=h:=by simp [bd]
theorem row_get {w:Nat}{g:Int→Int}{x:Nat}(h:x < w):(row w g)[x]?=some (g x):=by simp [row,h]
theorem bd_get {w h:Nat}{f:Fn}{y:Nat}(hy:y < h):(bd w h f)[y]?=some (row w fun x=>f x y):=by simp [bd,hy]
theorem row_congr {w:Nat}{g g':Int→Int}(h:∀ x:Nat,x < w→g x=g' x):row w g=row w g':=by
  unfold row
  apply List.map_congr_left
  intro x hx
  exact h x (List.mem_range.mp hx)
theorem bd_congr {w h:Nat}{f f':Fn}(e:∀ x y:Nat,x < w→y < h→f x y=f' x y):bd w h f=bd w h f':=by
  unfold bd
  apply List.map_congr_left
  intro y hy
  exact row_congr fun x hx=>e x y hx (List.mem_range.mp hy)
theorem row_inj {w:Nat}{g g':Int→Int}(h:row w g=row w g')(x:Nat)(hx:x < w):g x=g' x:=by
  have h1:=row_get (g:=g) hx
  rw [h,row_get hx] at h1
  exact (Option.some.inj h1).symm
theorem bd_inj {w h:Nat}{f f':Fn}(e:bd w h f=bd w h f')(x y:Nat)(hx:x < w)(hy:y < h):f x y=f' x y:=by
  have h1:=bd_get (w:=w) (f:=f) hy
  rw [e,bd_get hy] at h1
  exact (row_inj (Option.some.inj h1) x hx).symm
theorem bd_fn {w h:Nat}(hw:0 < w)(hh:0 < h){f f':Fn}(p:Per w h f)(q:Per w h f')(e:bd w h f=bd w h f'):f=f':=
  p.ext (by lia) (by lia) q fun x y hx hy=>bd_inj e x y (by lia) (by lia)
noncomputable def pf (w h:Nat)(b:List (List Int)):Fn:=fun x y=>(b.getD (y % h).toNat []).getD (x % w).toNat 0
theorem pf_per {w h:Nat}(b:List (List Int)):Per w h (pf w h b):=by
  constructor<;>intro x y<;>unfold pf<;>simp
theorem pf_bd {w h:Nat}{b:List (List Int)}(hb:b.length=h)(hr:∀ r∈b,r.length=w):bd w h (pf w h b)=b:=by
  apply List.ext_getElem?
  intro y
  by_cases hy:y < h
  · rw [bd_get hy,List.getElem?_eq_getElem (by lia)]
    congr 1
    have hm:=hr _ (List.getElem_mem (show y < b.length by lia))
    apply List.ext_getElem?
    intro x
    by_cases hx:x < w
    · rw [row_get hx]
      unfold pf
      have e1:((y:Int) % (h:Int)).toNat=y:=by rw [Int.emod_eq_of_lt (by lia) (by lia)]; lia
      have e2:((x:Int) % (w:Int)).toNat=x:=by rw [Int.emod_eq_of_lt (by lia) (by lia)]; lia
      rw [e1,e2,List.getD_eq_getElem?_getD,List.getD_eq_getElem?_getD,List.getElem?_eq_getElem (show y < b.length by lia)]
      simp only [Option.getD_some]
      rw [List.getElem?_eq_getElem (by lia)]
      rfl
    · rw [List.getElem?_eq_none (by rw [row_len]; lia),List.getElem?_eq_none (by lia)]
  · rw [List.getElem?_eq_none (by rw [bd_len]; lia),List.getElem?_eq_none (by lia)]
theorem pf_rng {w h:Nat}{c:Int}(hc:0 < c){b:List (List Int)}(hb:∀ r∈b,∀ x∈r,0≤x∧x < c):InR c (pf w h b):=by
  intro x y
  unfold pf
  generalize (y % h).toNat=i
  generalize (x % w).toNat=j
  rw [List.getD_eq_getElem?_getD,List.getD_eq_getElem?_getD]
  by_cases hi:i < b.length
  · rw [List.getElem?_eq_getElem hi]
    simp only [Option.getD_some]
    by_cases hj:j < (b[i]).length
    · rw [List.getElem?_eq_getElem hj]
      exact hb _ (List.getElem_mem hi) _ (List.getElem_mem hj)
    · rw [List.getElem?_eq_none (by lia)]
      exact ⟨Int.le_refl _,hc⟩
  · rw [List.getElem?_eq_none (show b.length≤i by lia)]
    simp
    exact hc
end Bd
namespace Bd
noncomputable def idn (n:Nat):List Int:=(List.range n).map fun (i:Nat)=>(i:Int)
noncomputable def rl (rs:List Int)(n:Int):Int:=rs.getD n.toNat 0
theorem idn_nodup (n:Nat):(idn n).Nodup:=by
  unfold idn
  rw [List.Nodup,List.pairwise_map]
  exact List.nodup_range.imp fun {a b} h e=>h (by lia)
theorem getD_eq' {α:Type}{l:List α}{i:Nat}{d:α}(h:i < l.length):l.getD i d=l[i]:=by rw [List.getD_eq_getElem?_getD,List.getElem?_eq_getElem h]; rfl
theorem perm_inv {n:Nat}{rs rb:List Int}(h:rs.Perm (idn n))(hl:rb.length=n)(hb:∀ i:Nat,i < n→rb.getD (rs.getD i 0).toNat 0=i)(m:Int)(h0:0≤m)(h1:m < n):
    (0≤rl rs m∧rl rs m < n)∧(0≤rl rb m∧rl rb m < n)∧rl rb (rl rs m)=m∧rl rs (rl rb m)=m:=by
  have hlen:rs.length=n:=by have:=h.length_eq; simpa [idn] using this
  have bd:∀ r∈rs,0≤r∧r < n:=fun r hr=>by
    have:=h.mem_iff.mp hr
    obtain ⟨i,hi,e⟩:=List.mem_map.mp this
    have:=List.mem_range.mp hi
    lia
  have r1:0≤rl rs m∧rl rs m < n:=by
    unfold rl
    rw [getD_eq' (by lia)]
    exact bd _ (List.getElem_mem _)
  -- m stands somewhere
  have hm:m∈rs:=h.mem_iff.mpr (List.mem_map.mpr ⟨m.toNat,List.mem_range.mpr (by lia),by lia⟩)
  obtain ⟨i,hi,e⟩:=List.mem_iff_getElem.mp hm
  have e1:=hb i (by lia)
  rw [getD_eq' hi,e] at e1
  have e2:=hb m.toNat (by lia)
  refine ⟨r1,?_,?_,?_⟩
  · unfold rl; rw [e1]; lia
  · unfold rl; rw [e2]; lia
  · unfold rl; rw [e1,show ((i:Int)).toNat=i by lia,getD_eq' hi,e]
noncomputable def bkl (rs:List Int):Nat→List Int
  | 0=>rs
  | k+1=>(bkl rs k).set (rs.getD k 0).toNat k
theorem bkl_len (rs:List Int):∀ k,(bkl rs k).length=rs.length
  | 0=>rfl
  | k+1=>by show ((bkl rs k).set _ _).length=_; rw [List.length_set,bkl_len rs k]
theorem bkl_at {n:Nat}{rs:List Int}(h:rs.Perm (idn n)):∀ k,k≤n→∀ i:Nat,i < k→(bkl rs k).getD (rs.getD i 0).toNat 0=i:=by
  have hlen:rs.length=n:=by have:=h.length_eq; simpa [idn] using this
  have bd:∀ r∈rs,0≤r∧r < n:=fun r hr=>by
    have:=h.mem_iff.mp hr
    obtain ⟨i,hi,e⟩:=List.mem_map.mp this
    have:=List.mem_range.mp hi
    lia
  have nd:rs.Nodup:=h.nodup_iff.mpr (idn_nodup n)
  intro k
  induction k with
  | zero=>intro _ i hi; lia
  | succ k ih=>
    intro hk i hi
    show ((bkl rs k).set (rs.getD k 0).toNat k).getD (rs.getD i 0).toNat 0=i
    have bk:=bd rs[k] (List.getElem_mem (by lia))
    have bi:=bd rs[i] (List.getElem_mem (by lia))
    rw [getD_eq' (show k < rs.length by lia),getD_eq' (show i < rs.length by lia)]
    by_cases e:i=k
    · subst e
      rw [List.getD_eq_getElem?_getD,List.getElem?_set_self (by rw [bkl_len]; lia)]
      rfl
    · have hne:rs[k]≠rs[i]:=fun q=>e ((List.getElem_inj nd).mp q).symm
      rw [List.getD_eq_getElem?_getD,List.getElem?_set_ne (by lia),←List.getD_eq_getElem?_getD]
      have:=ih (by lia) i (by lia)
      rw [getD_eq' (show i < rs.length by lia)] at this
      exact this
theorem bkl_inv {n:Nat}{rs:List Int}(h:rs.Perm (idn n))(m:Int)(h0:0≤m)(h1:m < n):
    (0≤rl rs m∧rl rs m < n)∧(0≤rl (bkl rs n) m∧rl (bkl rs n) m < n)∧rl (bkl rs n) (rl rs m)=m∧rl rs (rl (bkl rs n) m)=m:=
  perm_inv h (by rw [bkl_len]; have:=h.length_eq; simpa [idn] using this) (fun i hi=>bkl_at h n (Nat.le_refl _) i hi) m h0 h1
noncomputable def nOf (c:Int):Nat:=if c=2 then 16 else 81
theorem nOf_pow {c:Int}(hc:Col c):((nOf c:Nat):Int)=c ^ 4:=by rcases hc with rfl | rfl<;>rfl
theorem inv_of {c:Int}(hc:Col c){rs:List Int}(h:rs.Perm (idn (nOf c))):Inv c (rl rs) (rl (bkl rs (nOf c))):=by
  have e:=nOf_pow hc
  refine ⟨fun n h0 h1=>?_,fun n h0 h1=>?_,fun n h0 h1=>?_,fun n h0 h1=>?_⟩
  · have:=(bkl_inv h n h0 (by lia)).1; lia
  · have:=(bkl_inv h n h0 (by lia)).2.1; lia
  · exact (bkl_inv h n h0 (by lia)).2.2.1
  · exact (bkl_inv h n h0 (by lia)).2.2.2
theorem perm_of:∀ (l m:List Int),l.Nodup→(∀ x∈l,x∈m)→m.length≤l.length→l.Perm m
  | [],m,_,_,hl=>by
    have:m=[]:=List.length_eq_zero_iff.mp (by simpa using hl)
    rw [this]
  | a::t,m,nd,sub,hl=>by
    have ha:=sub a (by simp)
    have p:=List.perm_cons_erase ha
    rw [List.nodup_cons] at nd
    have ih:=perm_of t (m.erase a) nd.2 (fun x hx=>by
      have hm:=sub x (by simp [hx])
      have hne:x≠a:=fun e=>nd.1 (e ▸ hx)
      exact (List.mem_erase_of_ne hne).mpr hm) (by
      rw [List.length_erase_of_mem ha]; simp at hl; lia)
    exact (ih.cons a).trans p.symm
theorem nodup_perm {n:Nat}{l:List Int}(hl:l.length=n)(hb:∀ r∈l,0≤r∧r < n)(nd:l.Nodup):l.Perm (idn n):=by
  have sub:∀ r∈l,r∈idn n:=fun r hr=>List.mem_map.mpr ⟨r.toNat,List.mem_range.mpr (by have:=hb r hr; lia),by have:=hb r hr; lia⟩
  exact perm_of l (idn n) nd sub (by rw [hl]; simp [idn])
theorem bkl_perm {n:Nat}{rs:List Int}(h:rs.Perm (idn n)):(bkl rs n).Perm (idn n):=by
  have hlen:rs.length=n:=by have:=h.length_eq; simpa [idn] using this
  have hl:(bkl rs n).length=n:=by rw [bkl_len,hlen]
  have at_:∀ (i:Nat) (hi:i < n),(bkl rs n)[i]'(by lia)=rl (bkl rs n) i:=fun i hi=>by
    unfold rl; rw [show ((i:Int)).toNat=i by lia,getD_eq' (by lia)]
  refine nodup_perm hl (fun r hr=>?_) ?_
  · obtain ⟨i,hi,e⟩:=List.mem_iff_getElem.mp hr
    rw [←e,at_ i (by lia)]
    exact (bkl_inv h i (by lia) (by lia)).2.1
  · rw [List.Nodup,List.pairwise_iff_getElem]
    intro i j hi hj hij e
    rw [at_ i (by lia),at_ j (by lia)] at e
    have e1:=(bkl_inv h i (by lia) (by lia)).2.2.2
    have e2:=(bkl_inv h j (by lia) (by lia)).2.2.2
    rw [e,e2] at e1
    lia
end Bd
namespace Bd
noncomputable def two (c:Int)(r:Int→Int)(m:Int)(f:Fn):Fn:=fwd c r m 2 f
noncomputable def itr (T:Fn→Fn):Nat→Fn→Fn
  | 0,f=>f
  | n+1,f=>T (itr T n f)
theorem two_eq {c:Int}{r:Int→Int}{m:Int}(f:Fn):two c r m f=stp c r (m+1) (stp c r m f):=by
  show stp c r (m+((1:Nat):Int)) (stp c r (m+((0:Nat):Int)) f)=_
  rw [show m+((1:Nat):Int)=m+1 by lia,show m+((0:Nat):Int)=m by lia]
theorem two_par {c:Int}{r:Int→Int}{m m':Int}(h:m % 2=m' % 2):two c r m=two c r m':=by
  funext f
  exact fwd_par h f 2
theorem itr_succ (T:Fn→Fn)(f:Fn):∀ n,itr T (n+1) f=itr T n (T f)
  | 0=>rfl
  | n+1=>by
    show T (itr T (n+1) f)=T (itr T n (T f))
    rw [itr_succ T f n]
theorem fwd_itr {c:Int}{r:Int→Int}{m:Int}(f:Fn):∀ n:Nat,fwd c r m (2*n) f=itr (two c r m) n f
  | 0=>rfl
  | n+1=>by
    rw [show 2*(n+1)=2*n+2 by lia,←fwd_add,fwd_itr f n]
    show two c r (m+((2*n:Nat):Int)) _=two c r m _
    rw [two_par (m:=m+((2*n:Nat):Int)) (m':=m) (by lia)]
theorem itr_rng {c:Int}(hc:Col c){r:Int→Int}{m:Int}{f:Fn}(hf:InR c f)(n:Nat):InR c (itr (two c r m) n f):=by
  rw [←fwd_itr]
  exact fwd_rng hc hf m _
theorem two_back {c:Int}(hc:Col c){r r':Int→Int}(h:Inv c r r'){f:Fn}(hf:InR c f)(m:Int):two c r' (m+1) (two c r m f)=f:=by
  rw [two_eq,two_eq,stp_back hc h (stp_rng hc r m f),stp_par (s:=m+1+1) (s':=m) (by lia),stp_back hc h hf]
theorem itr_back {c:Int}(hc:Col c){r r':Int→Int}(h:Inv c r r')(m:Int):∀ (n:Nat) {f:Fn},InR c f→itr (two c r' (m+1)) n (itr (two c r m) n f)=f
  | 0,_,_=>rfl
  | n+1,f,hf=>by
    rw [itr_succ (two c r' (m+1))]
    show itr (two c r' (m+1)) n (two c r' (m+1) (two c r m (itr (two c r m) n f)))=f
    rw [two_back hc h (itr_rng hc hf n),itr_back hc h m n hf]
theorem itr_other {c:Int}(hc:Col c){r r':Int→Int}(h:Inv c r r'){f:Fn}(hf:InR c f)(m:Int)(n:Nat):itr (two c r' (m+1)) n f=f↔itr (two c r m) n f=f:=by
  constructor
  · intro e
    have:=itr_back hc h.symm (m+1) n hf
    rw [e,two_par (m:=m+1+1) (m':=m) (by lia)] at this
    exact this
  · intro e
    have:=itr_back hc h m n hf
    rw [e] at this
    exact this
end Bd
namespace Rg
section
variable {α:Type}[DecidableEq α]
noncomputable def it (T:α→α):Nat→α→α
  | 0,a=>a
  | n+1,a=>T (it T n a)
theorem it_add (T:α→α)(a:α)(n:Nat):∀ k,it T k (it T n a)=it T (k+n) a
  | 0=>by rw [Nat.zero_add]; rfl
  | k+1=>by
    rw [show k+1+n=(k+n)+1 by lia]
    show T (it T k (it T n a))=T (it T (k+n) a)
    rw [it_add T a n k]
structure Tn (B:List α)(T T':α→α):Prop where
  cl:∀ a∈B,T a∈B
  inv:∀ a∈B,T' (T a)=a
variable {B:List α}{T T':α→α}
theorem Tn.mem (h:Tn B T T'){a:α}(ha:a∈B):∀ n,it T n a∈B
  | 0=>ha
  | n+1=>h.cl _ (h.mem ha n)
theorem Tn.back (h:Tn B T T'){a b:α}(ha:a∈B)(hb:b∈B):∀ n,it T n a=it T n b→a=b
  | 0,e=>e
  | n+1,e=>by
    have e:T (it T n a)=T (it T n b):=e
    have e2:=congrArg T' e
    rw [h.inv _ (h.mem ha n),h.inv _ (h.mem hb n)] at e2
    exact h.back ha hb n e2
theorem nodup_le {l m:List α}(nd:l.Nodup)(h:∀ x∈l,x∈m):l.length≤m.length:=List.Nodup.length_le_of_subset nd h
noncomputable def orb (T:α→α)(n:Nat)(a:α):List α:=(List.range n).map fun i=>it T i a
theorem orb_len (n:Nat)(a:α):(orb T n a).length=n:=by simp [orb]
theorem orb_succ (n:Nat)(a:α):orb T (n+1) a=orb T n a++[it T n a]:=by simp [orb,List.range_succ]
noncomputable def IsP (T:α→α)(a:α)(n:Nat):Prop:=0 < n∧it T n a=a∧∀ i,0 < i→i < n→it T i a≠a
theorem least {P:Nat→Prop}:∀ n,P n→∃ m,m≤n∧P m∧∀ i,i < m→¬ P i:=fun n=>by
  induction n using Nat.strongRecOn with
  | ind n ih=>
    intro h
    by_cases z:∃ i,i < n∧P i
    · obtain ⟨i,h1,h2⟩:=z
      obtain ⟨m,h3,h4,h5⟩:=ih i h1 h2
      exact ⟨m,by lia,h4,h5⟩
    · exact ⟨n,Nat.le_refl n,h,fun i hi hp=>z ⟨i,hi,hp⟩⟩
theorem Tn.inj (h:Tn B T T'){a:α}(ha:a∈B){i j:Nat}(hij:i < j)(e:it T i a=it T j a):it T (j - i) a=a:=by
  have e2:it T i a=it T i (it T (j - i) a):=by
    rw [it_add,show i+(j - i)=j by lia]
    exact e
  exact (h.back ha (h.mem ha _) i e2).symm
theorem Tn.per (h:Tn B T T'){a:α}(ha:a∈B):∃ n,IsP T a n:=by
  have hn:¬ (orb T (B.length+1) a).Nodup:=fun nd=>by
    have:=nodup_le nd fun x hx=>by
      obtain ⟨i,_,rfl⟩:=List.mem_map.mp hx
      exact h.mem ha i
    rw [orb_len] at this
    lia
  have hex:∃ n,0 < n∧it T n a=a:=by
    apply Classical.byContradiction
    intro no
    apply hn
    unfold orb
    rw [List.Nodup,List.pairwise_map]
    refine (List.nodup_range (n:=B.length+1)).imp_of_mem fun {i j} _ _ hij e=>no ?_
    rcases Nat.lt_or_gt_of_ne hij with z | z
    · exact ⟨j - i,by lia,h.inj ha z e⟩
    · exact ⟨i - j,by lia,h.inj ha z e.symm⟩
  obtain ⟨n,h1,h2⟩:=hex
  obtain ⟨m,_,⟨h3,h4⟩,h5⟩:=least (P:=fun n=>0 < n∧it T n a=a) n ⟨h1,h2⟩
  exact ⟨m,h3,h4,fun i hi hm e=>h5 i hm ⟨hi,e⟩⟩
theorem IsP.un {a:α}{n m:Nat}(h:IsP T a n)(k:IsP T a m):n=m:=by
  rcases Nat.lt_trichotomy n m with z | z | z
  · exact absurd h.2.1 (k.2.2 n h.1 z)
  · exact z
  · exact absurd k.2.1 (h.2.2 m k.1 z)
noncomputable def per (T:α→α)(a:α):Nat:=open Classical in if h:∃ n,IsP T a n then Classical.choose h else 0
theorem IsP.per {a:α}{n:Nat}(h:IsP T a n):per T a=n:=by
  unfold Rg.per
  rw [dif_pos ⟨n,h⟩]
  exact (Classical.choose_spec (⟨n,h⟩:∃ n,IsP T a n)).un h
theorem Tn.isP (h:Tn B T T'){a:α}(ha:a∈B):IsP T a (Rg.per T a):=by
  obtain ⟨n,hn⟩:=h.per ha
  rw [hn.per]
  exact hn
theorem Tn.orb_nodup (h:Tn B T T'){a:α}(ha:a∈B){n:Nat}(hn:IsP T a n):(orb T n a).Nodup:=by
  unfold orb
  rw [List.Nodup,List.pairwise_map]
  refine (List.nodup_range (n:=n)).imp_of_mem fun {i j} hi hj hij e=>?_
  rw [List.mem_range] at hi hj
  rcases Nat.lt_or_gt_of_ne hij with z | z
  · exact hn.2.2 (j - i) (by lia) (by lia) (h.inj ha z e)
  · exact hn.2.2 (i - j) (by lia) (by lia) (h.inj ha z e.symm)
theorem orb_mem {a x:α}{n:Nat}:x∈orb T n a↔∃ i,i < n∧it T i a=x:=by
  unfold orb
  rw [List.mem_map]
  exact ⟨fun ⟨i,h1,h2⟩=>⟨i,List.mem_range.mp h1,h2⟩,fun ⟨i,h1,h2⟩=>⟨i,List.mem_range.mpr h1,h2⟩⟩
theorem Tn.len (h:Tn B T T'){a:α}(ha:a∈B){n:Nat}(hn:IsP T a n):n≤B.length:=by
  have:=nodup_le (h.orb_nodup ha hn) fun x hx=>by
    obtain ⟨i,_,rfl⟩:=orb_mem.mp hx
    exact h.mem ha i
  rw [orb_len] at this
  exact this
theorem Tn.same (h:Tn B T T'){a:α}(ha:a∈B){n:Nat}(hn:IsP T a n)(i:Nat):IsP T (it T i a) n:=by
  refine ⟨hn.1,?_,fun k h1 h2 e=>?_⟩
  · rw [it_add,Nat.add_comm,←it_add,hn.2.1]
  · rw [it_add,Nat.add_comm,←it_add] at e
    exact hn.2.2 k h1 h2 (h.back (h.mem ha k) ha i e)
structure St (B:List α)(T:α→α)(seen:List α)(lens:List Int):Prop where
  nd:seen.Nodup
  sub:∀ a∈seen,a∈B
  cl:∀ a∈seen,T a∈seen
  cnt:∀ L:Nat,L*lens.count (L:Int)=seen.countP fun b=>per T b == L
  sum:lens.sum=seen.length
  pos:∀ x∈lens,0 < x
theorem St.nil:St B T [] []:=⟨List.nodup_nil,fun a h=>by simp at h,fun a h=>by simp at h,fun L=>by simp,rfl,fun x h=>by simp at h⟩
theorem St.far {seen:List α}{lens:List Int}(s:St B T seen lens){a:α}(ha:a∈seen):∀ n,it T n a∈seen
  | 0=>ha
  | n+1=>s.cl _ (s.far ha n)
theorem St.out {seen:List α}{lens:List Int}(s:St B T seen lens){a:α}{n i:Nat}(hn:IsP T a n)(ha:a∉seen)(hi:i < n):it T i a∉seen:=fun z=>by
  have:=s.far z (n - i)
  rw [it_add,show n - i+i=n by lia,hn.2.1] at this
  exact ha this
theorem St.step (h:Tn B T T'){seen:List α}{lens:List Int}(s:St B T seen lens){a:α}(hb:a∈B)(ha:a∉seen){n:Nat}(hn:IsP T a n):St B T (seen++orb T n a) (lens++[(n:Int)]):=by
  refine ⟨?_,fun x hx=>?_,fun x hx=>?_,fun L=>?_,?_,fun x hx=>?_⟩
  · rw [List.nodup_append]
    refine ⟨s.nd,h.orb_nodup hb hn,fun x hx y hy e=>?_⟩
    subst e
    obtain ⟨i,hi,rfl⟩:=orb_mem.mp hy
    exact s.out hn ha hi hx
  · rcases List.mem_append.mp hx with hx | hx
    · exact s.sub x hx
    · obtain ⟨i,_,rfl⟩:=orb_mem.mp hx
      exact h.mem hb i
  · rcases List.mem_append.mp hx with hx | hx
    · exact List.mem_append_left _ (s.cl x hx)
    · obtain ⟨i,hi,rfl⟩:=orb_mem.mp hx
      refine List.mem_append_right _ (orb_mem.mpr ?_)
      by_cases z:i+1 < n
      · exact ⟨i+1,z,rfl⟩
      · refine ⟨0,hn.1,?_⟩
        have e:i+1=n:=by lia
        show a=it T (i+1) a
        rw [e,hn.2.1]
  · rw [List.countP_append,←s.cnt L,List.count_append]
    have e:(orb T n a).countP (fun b=>per T b == L)=if n=L then n else 0:=by
      have hall:∀ b∈orb T n a,(per T b == L)=decide (n=L):=fun b hb'=>by
        obtain ⟨i,_,rfl⟩:=orb_mem.mp hb'
        rw [(h.same hb hn i).per]
        rfl
      rw [List.countP_congr (q:=fun _=>decide (n=L)) fun b hb'=>by rw [hall b hb']]
      by_cases z:n=L
      · rw [if_pos z,show (fun _:α=>decide (n=L))=fun _=>true by rw [decide_eq_true z],List.countP_true,orb_len]
      · rw [if_neg z,show (fun _:α=>decide (n=L))=fun _=>false by rw [decide_eq_false z],List.countP_false]
        rfl
    rw [e,Nat.mul_add]
    by_cases z:n=L
    · rw [if_pos z,z]
      simp
    · rw [if_neg z,List.count_singleton,if_neg (by simp; lia)]
      simp
  · rw [List.sum_append,s.sum,List.length_append,orb_len]
    simp
  · rcases List.mem_append.mp hx with hx | hx
    · exact s.pos x hx
    · rw [List.mem_singleton.mp hx]
      have:=hn.1
      lia
theorem perm_of:∀ (l m:List α),l.Nodup→(∀ x∈l,x∈m)→m.length≤l.length→l.Perm m
  | [],m,_,_,h=>by
    have:m=[]:=List.eq_nil_of_length_eq_zero (by simpa using h)
    rw [this]
  | a::l,m,nd,hs,h=>by
    rw [List.nodup_cons] at nd
    have ha:a∈m:=hs a (by simp)
    have p:=perm_of l (m.erase a) nd.2 (fun x hx=>(List.mem_erase_of_ne (fun z:x=a=>nd.1 (by rw [←z]; exact hx))).mpr (hs x (by simp [hx]))) (by
      rw [List.length_erase_of_mem ha]
      simp at h
      lia)
    exact (p.cons a).trans (List.perm_cons_erase ha).symm
theorem perm_ext {l m:List α}(h1:l.Nodup)(h2:m.Nodup)(h:∀ x,x∈l↔x∈m):l.Perm m:=perm_of l m h1 (fun x hx=>(h x).mp hx) (nodup_le h2 fun x hx=>(h x).mpr hx)
theorem St.all {seen:List α}{lens:List Int}(s:St B T seen lens)(h:∀ a∈B,a∈seen)(x:α):x∈seen↔x∈B:=⟨s.sub x,h x⟩
theorem count_eq {l m:List Int}(hl:∀ x∈l,0 < x)(hm:∀ x∈m,0 < x)(h:∀ L:Nat,L*l.count (L:Int)=L*m.count (L:Int))(x:Int):l.count x=m.count x:=by
  by_cases z:0 < x
  · have e:=h x.toNat
    rw [Int.toNat_of_nonneg (by lia)] at e
    exact Nat.eq_of_mul_eq_mul_left (by lia) e
  · rw [List.count_eq_zero.mpr fun q=>z (hl x q),List.count_eq_zero.mpr fun q=>z (hm x q)]
theorem St.eq {B2:List α}{s1 s2:List α}{l1 l2:List Int}(a:St B T s1 l1)(b:St B2 T s2 l2)(h1:∀ x∈B,x∈s1)(h2:∀ x∈B2,x∈s2)(hB:∀ x,x∈B↔x∈B2)(x:Int):l1.count x=l2.count x:=by
  refine count_eq a.pos b.pos (fun L=>?_) x
  rw [a.cnt,b.cnt]
  exact (perm_ext a.nd b.nd fun x=>(a.all h1 x).trans ((hB x).trans (b.all h2 x).symm)).countP_eq _
theorem St.conj {U U':α→α}{S S':α→α}(hT:Tn B T T')(hU:Tn B U U'){s1 s2:List α}{l1 l2:List Int}(a:St B T s1 l1)(b:St B U s2 l2)(h1:∀ x∈B,x∈s1)(h2:∀ x∈B,x∈s2)
    (hS:Tn B S S') (hc:∀ x∈B,∀ n,it U n (S x)=S x↔it T n x=x) (x:Int):l1.count x=l2.count x:=by
  refine count_eq a.pos b.pos (fun L=>?_) x
  rw [a.cnt,b.cnt]
  have p12:s1.Perm s2:=perm_ext a.nd b.nd fun x=>(a.all h1 x).trans (b.all h2 x).symm
  have nd:(s1.map S).Nodup:=by
    rw [List.Nodup,List.pairwise_map]
    refine a.nd.imp_of_mem fun {x y} hx hy hxy e=>hxy ?_
    exact hS.back (a.sub x hx) (a.sub y hy) 1 e
  have p:(s1.map S).Perm s2:=perm_of _ _ nd (fun y hy=>by
    obtain ⟨x,hx,rfl⟩:=List.mem_map.mp hy
    exact h2 _ (hS.cl x (a.sub x hx))) (by rw [List.length_map,p12.length_eq]; exact Nat.le_refl _)
  rw [←p.countP_eq,List.countP_map]
  refine List.countP_congr fun y hy=>?_
  have hp:IsP U (S y) (per T y):=by
    have q:=hT.isP (a.sub y hy)
    refine ⟨q.1,(hc y (a.sub y hy) _).mpr q.2.1,fun i hi hj e=>q.2.2 i hi hj ((hc y (a.sub y hy) i).mp e)⟩
  show _↔(per U (S y) == L)=true
  rw [hp.per]
end
end Rg
namespace Rg
open Bd
noncomputable def isB (c:Int)(w h:Nat)(b:List (List Int)):Prop:=b.length=h∧∀ r∈b,r.length=w∧∀ x∈r,0≤x∧x < c
noncomputable def allT {β:Type}(vs:List β):Nat→List (List β)
  | 0=>[[]]
  | n+1=>(allT vs n).flatMap fun s=>vs.map fun v=>s++[v]
theorem allT_mem {β:Type}{vs:List β}:∀ {n:Nat} {b:List β},b∈allT vs n↔b.length=n∧∀ x∈b,x∈vs
  | 0,b=>by
    unfold allT
    rw [List.mem_singleton]
    constructor
    · rintro rfl
      simp
    · intro h
      exact List.eq_nil_of_length_eq_zero h.1
  | n+1,b=>by
    unfold allT
    rw [List.mem_flatMap]
    constructor
    · rintro ⟨s,hs,hb⟩
      obtain ⟨v,hv,rfl⟩:=List.mem_map.mp hb
      obtain ⟨h1,h2⟩:=allT_mem.mp hs
      refine ⟨by rw [List.length_append,h1]; rfl,fun x hx=>?_⟩
      rcases List.mem_append.mp hx with hx | hx
      · exact h2 x hx
      · rw [List.mem_singleton.mp hx]
        exact hv
    · rintro ⟨h1,h2⟩
      have hne:b≠[]:=fun z=>by rw [z] at h1; simp at h1
      have e:=List.dropLast_concat_getLast hne
      refine ⟨b.dropLast,allT_mem.mpr ⟨by rw [List.length_dropLast,h1]; rfl,fun x hx=>h2 x (List.dropLast_subset b hx)⟩,List.mem_map.mpr ⟨b.getLast hne,h2 _ (List.getLast_mem hne),e⟩⟩
noncomputable def nums (c:Nat):List Int:=(List.range c).map fun (i:Nat)=>(i:Int)
theorem nums_mem {c:Nat}{x:Int}:x∈nums c↔0≤x∧x < c:=by
  unfold nums
  rw [List.mem_map]
  constructor
  · rintro ⟨i,hi,rfl⟩
    rw [List.mem_range] at hi
    lia
  · intro h
    exact ⟨x.toNat,List.mem_range.mpr (by lia),by lia⟩
noncomputable def allX (c w h:Nat):List (List (List Int)):=allT (allT (nums c) w) h
theorem allX_mem {c w h:Nat}{b:List (List Int)}:b∈allX c w h↔isB c w h b:=by
  unfold allX isB
  rw [allT_mem]
  constructor
  · rintro ⟨h1,h2⟩
    refine ⟨h1,fun r hr=>?_⟩
    obtain ⟨h3,h4⟩:=allT_mem.mp (h2 r hr)
    exact ⟨h3,fun x hx=>nums_mem.mp (h4 x hx)⟩
  · rintro ⟨h1,h2⟩
    exact ⟨h1,fun r hr=>allT_mem.mpr ⟨(h2 r hr).1,fun x hx=>nums_mem.mpr ((h2 r hr).2 x hx)⟩⟩
section
variable {c:Int}{w h:Nat}{b:List (List Int)}{f g:Fn}{r r':Int→Int}
theorem bd_isB (hf:InR c f):isB c w h (bd w h f):=by
  refine ⟨bd_len w h f,fun q hq=>?_⟩
  unfold bd at hq
  obtain ⟨y,_,rfl⟩:=List.mem_map.mp hq
  refine ⟨row_len _ _,fun x hx=>?_⟩
  unfold row at hx
  obtain ⟨i,_,rfl⟩:=List.mem_map.mp hx
  exact hf _ _
theorem pf_in (hc:0 < c)(hb:isB c w h b):InR c (pf w h b):=pf_rng hc fun q hq=>(hb.2 q hq).2
theorem bd_pf (hb:isB c w h b):bd w h (pf w h b)=b:=pf_bd hb.1 fun q hq=>(hb.2 q hq).1
theorem pf_of (hw:0 < w)(hh:0 < h)(p:Per w h f):pf w h (bd w h f)=f:=by
  refine bd_fn hw hh (pf_per _) p (pf_bd (bd_len _ _ _) fun q hq=>?_)
  unfold bd at hq
  obtain ⟨y,_,rfl⟩:=List.mem_map.mp hq
  exact row_len _ _
noncomputable def lft (w h:Nat)(t:Fn→Fn)(b:List (List Int)):List (List Int):=bd w h (t (pf w h b))
structure Fair (c:Int)(w h:Nat)(t:Fn→Fn):Prop where
  rng:∀ f,InR c f→InR c (t f)
  per:∀ f,Bd.Per w h f→Bd.Per w h (t f)
theorem lft_tn {t t':Fn→Fn}{B:List (List (List Int))}(hB:∀ b,b∈B↔isB c w h b)(hc:0 < c)(hw:0 < w)(hh:0 < h)(ft:Fair c w h t)(hi:∀ f,InR c f→t' (t f)=f):Tn B (lft w h t) (lft w h t'):=by
  refine ⟨fun a ha=>?_,fun a ha=>?_⟩
  · rw [hB] at ha ⊢
    exact bd_isB (ft.rng _ (pf_in hc ha))
  · rw [hB] at ha
    unfold lft
    rw [pf_of hw hh (ft.per _ (pf_per a)),hi _ (pf_in hc ha),bd_pf ha]
theorem lft_it {t:Fn→Fn}(hc:0 < c)(hw:0 < w)(hh:0 < h)(ft:Fair c w h t)(hb:isB c w h b):∀ n,InR c (itr t n (pf w h b))∧Bd.Per w h (itr t n (pf w h b))∧it (lft w h t) n b=bd w h (itr t n (pf w h b))
  | 0=>⟨pf_in hc hb,pf_per b,(bd_pf hb).symm⟩
  | n+1=>by
    obtain ⟨h1,h2,h3⟩:=lft_it hc hw hh ft hb n
    refine ⟨ft.rng _ h1,ft.per _ h2,?_⟩
    show lft w h t (it (lft w h t) n b)=bd w h (t (itr t n (pf w h b)))
    rw [h3]
    unfold lft
    rw [pf_of hw hh h2]
theorem fair_two (hc:Col c)(hw:(w:Int) % 2=0)(hh:(h:Int) % 2=0)(m:Int):Fair c w h (two c r m):=⟨fun f hf=>fwd_rng hc hf m 2,fun f p=>fwd_per hw hh p m 2⟩
theorem fair_stp (hc:Col c)(hw:(w:Int) % 2=0)(hh:(h:Int) % 2=0)(m:Int):Fair c w h (stp c r m):=⟨fun f hf=>stp_rng hc r m f,fun f p=>stp_per hw hh p⟩
theorem two_conj (hc:Col c)(hi:Bd.Inv c r r')(hf:InR c f):two c r' 0 (stp c r 0 f)=stp c r 0 (two c r' 1 f):=by
  rw [two_eq,two_eq,stp_back hc hi hf,stp_par (s:=1+1) (s':=0) (by lia)]
  have:=stp_back hc hi.symm (stp_rng hc r' 1 f) 0
  rw [this]
  rfl
theorem itr_conj (hc:Col c)(hi:Bd.Inv c r r')(hf:InR c f):∀ n,itr (two c r' 0) n (stp c r 0 f)=stp c r 0 (itr (two c r' 1) n f)
  | 0=>rfl
  | n+1=>by
    show two c r' 0 (itr (two c r' 0) n (stp c r 0 f))=stp c r 0 (two c r' 1 (itr (two c r' 1) n f))
    rw [itr_conj hc hi hf n,two_conj hc hi (itr_rng hc hf n)]
theorem conj_iff (hc:Col c)(hi:Bd.Inv c r r')(hf:InR c f)(n:Nat):itr (two c r' 0) n (stp c r 0 f)=stp c r 0 f↔itr (two c r 0) n f=f:=by
  rw [itr_conj hc hi hf n]
  have o:=itr_other hc hi hf 0 n
  rw [show (0:Int)+1=1 from rfl] at o
  rw [←o]
  constructor
  · intro e
    have:=congrArg (stp c r' 0) e
    rw [stp_back hc hi (itr_rng hc hf n),stp_back hc hi hf] at this
    exact this
  · intro e
    rw [e]
theorem lft_conj {B:List (List (List Int))}(hB:∀ b,b∈B↔isB c w h b)(hc:Col c)(hw:(w:Int) % 2=0)(hh:(h:Int) % 2=0)(hw0:0 < w)(hh0:0 < h)(hi:Bd.Inv c r r'):
    ∀ x∈B,∀ n,it (lft w h (two c r' 0)) n (lft w h (stp c r 0) x)=lft w h (stp c r 0) x↔it (lft w h (two c r 0)) n x=x:=fun x hx n=>by
  rw [hB] at hx
  have c0:0 < c:=by rcases hc with rfl | rfl<;>decide
  have fs:=fair_stp (r:=r) hc hw hh 0
  have f1:=fair_two (r:=r) hc hw hh 0
  have f2:=fair_two (r:=r') hc hw hh 0
  have hs:isB c w h (lft w h (stp c r 0) x):=bd_isB (fs.rng _ (pf_in c0 hx))
  obtain ⟨_,p1,e1⟩:=lft_it c0 hw0 hh0 f1 hx n
  obtain ⟨_,p2,e2⟩:=lft_it c0 hw0 hh0 f2 hs n
  have e3:pf w h (lft w h (stp c r 0) x)=stp c r 0 (pf w h x):=pf_of hw0 hh0 (fs.per _ (pf_per x))
  rw [e1,e2,e3]
  rw [e3] at p2
  have i:=conj_iff hc hi (pf_in c0 hx) n
  constructor
  · intro e
    have:=bd_fn hw0 hh0 p2 (fs.per _ (pf_per x)) e
    rw [i.mp this,bd_pf hx]
  · intro e
    have:itr (two c r 0) n (pf w h x)=pf w h x:=bd_fn hw0 hh0 p1 (pf_per x) (e.trans (bd_pf hx).symm)
    rw [i.mpr this]
    rfl
end
end Rg
namespace Rg
open Mi
noncomputable def resL (lens:List Int):List (Int×Int):=(srtS lens).map fun x=>(x,((lens.count x:Nat):Int))
theorem resL_eq {l m:List Int}(h:∀ x,l.count x=m.count x):resL l=resL m:=by
  have e:srtS l=srtS m:=srtS_eq srtS_up fun a=>by
    rw [srtS_mem,←List.count_pos_iff,←List.count_pos_iff,h a]
  unfold resL
  rw [e]
  exact List.map_congr_left fun x _=>by rw [h x]
structure CN (ps:List (Int×Int))(lens:List Int):Prop where
  get:∀ x,getN ps x=if x∈lens then some ((lens.count x:Nat):Int) else none
  key:∀ x,x∈ps.map (·.1)↔x∈lens
  nd:(ps.map (·.1)).Nodup
theorem CN.nil:CN [] []:=⟨fun x=>by simp [getN],fun x=>by simp,List.nodup_nil⟩
theorem getN_none:∀ {ps:List (Int×Int)} {k:Int},k∉ps.map (·.1)→getN ps k=none
  | [],k,_=>rfl
  | p::ps,k,h=>by
    rw [List.map_cons,List.mem_cons,not_or] at h
    have:=getN_none h.2
    unfold getN at this ⊢
    rw [List.find?_cons,decide_eq_false fun z=>h.1 z.symm]
    exact this
theorem any_key {ps:List (Int×Int)}{k:Int}:(ps.any fun q=>decide (q.1=k))=true↔k∈ps.map (·.1):=by
  rw [List.any_eq_true,List.mem_map]
  exact ⟨fun ⟨x,h1,h2⟩=>⟨x,h1,of_decide_eq_true h2⟩,fun ⟨x,h1,h2⟩=>⟨x,h1,decide_eq_true h2⟩⟩
theorem putN_keys {ps:List (Int×Int)}{k v:Int}:(putN ps k v).map (·.1)=if k∈ps.map (·.1) then ps.map (·.1) else ps.map (·.1)++[k]:=by
  unfold putN
  by_cases h:k∈ps.map (·.1)
  · rw [if_pos (any_key.mpr h),if_pos h,List.map_map]
    refine List.map_congr_left fun q _=>?_
    show (if q.1=k then (q.1,v) else q).1=q.1
    split<;>rfl
  · rw [if_neg (fun z=>h (any_key.mp z)),if_neg h,List.map_append]
    rfl
theorem getN_map {k v x:Int}:∀ {ps:List (Int×Int)},getN (ps.map fun q=>if q.1=k then (q.1,v) else q) x=if x=k then (if k∈ps.map (·.1) then some v else none) else getN ps x
  | []=>by simp [getN]
  | p::ps=>by
    have ih:=getN_map (k:=k) (v:=v) (x:=x) (ps:=ps)
    unfold getN at ih ⊢
    rw [List.map_cons,List.find?_cons,List.find?_cons]
    by_cases h1:p.1=k
    · rw [if_pos h1]
      by_cases h2:x=k
      · subst h2
        rw [if_pos rfl,decide_eq_true h1]
        simp [h1]
      · rw [if_neg h2] at ih ⊢
        rw [decide_eq_false (fun z:p.1=x=>h2 (z.symm.trans h1))]
        exact ih
    · rw [if_neg h1]
      by_cases h2:p.1=x
      · rw [decide_eq_true h2,if_neg (fun z=>h1 (h2.trans z))]
      · rw [decide_eq_false h2]
        dsimp only
        rw [ih]
        have:¬ k=p.1:=fun z=>h1 z.symm
        simp only [List.map_cons,List.mem_cons,this,false_or]
theorem getN_put {ps:List (Int×Int)}{k v x:Int}:getN (putN ps k v) x=if x=k then some v else getN ps x:=by
  unfold putN
  by_cases h:k∈ps.map (·.1)
  · rw [if_pos (any_key.mpr h),getN_map,if_pos h]
  · rw [if_neg (fun z=>h (any_key.mp z))]
    unfold getN
    rw [List.find?_append]
    by_cases e:x=k
    · subst e
      have:=getN_none h
      unfold getN at this
      rw [Option.map_eq_none_iff] at this
      rw [this,if_pos rfl]
      simp
    · rw [if_neg e,List.find?_singleton,if_neg (by simpa using fun z=>e z.symm),Option.or_none]
theorem CN.put {ps:List (Int×Int)}{lens:List Int}(h:CN ps lens)(n:Int):CN (putN ps n ((getN ps n).getD 0+1)) (lens++[n]):=by
  have e0:(getN ps n).getD 0=((lens.count n:Nat):Int):=by
    rw [h.get]
    by_cases z:n∈lens
    · rw [if_pos z]; rfl
    · rw [if_neg z,List.count_eq_zero.mpr z]; rfl
  refine ⟨fun x=>?_,fun x=>?_,?_⟩
  · rw [getN_put,e0]
    by_cases e:x=n
    · subst e
      rw [if_pos rfl,if_pos (by simp),List.count_append,List.count_singleton]
      simp
    · have e1:¬ (n == x)=true:=fun z=>e (eq_of_beq z).symm
      rw [if_neg e,h.get,List.count_append,List.count_singleton,if_neg e1]
      by_cases z:x∈lens
      · rw [if_pos z,if_pos (by simp [z])]
        rfl
      · rw [if_neg z,if_neg (by simp [z,e])]
  · rw [putN_keys]
    by_cases z:n∈ps.map (·.1)
    · rw [if_pos z,h.key,List.mem_append,List.mem_singleton]
      constructor
      · exact .inl
      · rintro (q | rfl)
        · exact q
        · exact (h.key _).mp z
    · rw [if_neg z,List.mem_append,List.mem_append,h.key]
  · rw [putN_keys]
    by_cases z:n∈ps.map (·.1)
    · rw [if_pos z]
      exact h.nd
    · rw [if_neg z,List.nodup_append]
      refine ⟨h.nd,by simp,fun a ha b hb e=>?_⟩
      rw [List.mem_singleton.mp hb] at e
      exact z (e ▸ ha)
theorem CN.res {ps:List (Int×Int)}{lens:List Int}(h:CN ps lens):srtP ps=resL lens:=by
  have e:srtS (ps.map (·.1))=srtS lens:=srtS_eq srtS_up fun a=>by rw [srtS_mem,h.key]
  unfold srtP resL
  rw [e]
  refine List.map_congr_left fun x hx=>?_
  rw [h.get,if_pos (srtS_mem.mp hx)]
  rfl
theorem up_nodup {l:List Int}(h:l.Pairwise (· < ·)):l.Nodup:=h.imp fun h=>by lia
theorem CN.len {ps:List (Int×Int)}{lens:List Int}(h:CN ps lens):ps.length=(srtS lens).length:=by
  have p:(ps.map (·.1)).Perm (srtS lens):=perm_ext h.nd (up_nodup srtS_up) fun x=>by rw [h.key,srtS_mem]
  rw [←p.length_eq,List.length_map]
theorem ins_sum {n:Int}(hn:0 < n):∀ {l:List Int},(insI n l).sum≤n+l.sum
  | []=>by simp [insI]
  | m::r=>by
    unfold insI
    split
    · simp
    · split
      · simp; lia
      · have:=ins_sum hn (l:=r)
        simp
        lia
theorem srt_sum:∀ {l:List Int},(∀ x∈l,0 < x)→(srtS l).sum≤l.sum
  | [],_=>by simp [srtS]
  | m::r,h=>by
    have i1:=srt_sum (l:=r) fun x hx=>h x (by simp [hx])
    have i2:=ins_sum (h m (by simp)) (l:=srtS r)
    show (insI m (srtS r)).sum≤_
    simp
    lia
noncomputable def tri:Nat→Int→Int
  | 0,_=>0
  | n+1,a=>(a+1)+tri n (a+1)
theorem sum_nn:∀ {l:List Int},(∀ x∈l,0≤x)→0≤l.sum
  | [],_=>by simp
  | x::r,hx=>by
    have:=hx x (by simp)
    have:=sum_nn (l:=r) fun y hy=>hx y (by simp [hy])
    simp
    lia
theorem up_sum:∀ {l:List Int} {a:Int} (n:Nat),0≤a→l.Pairwise (· < ·)→(∀ x∈l,a < x)→n≤l.length→tri n a≤l.sum
  | l,a,0,ha,_,hx,_=>by
    exact sum_nn fun x h=>by have:=hx x h; lia
  | [],a,n+1,_,_,_,hn=>by simp at hn
  | x::r,a,n+1,ha,hp,hx,hn=>by
    rw [List.pairwise_cons] at hp
    have h0:=hx x (by simp)
    have:=up_sum (l:=r) (a:=a+1) n (by lia) hp.2 (fun y hy=>by have:=hp.1 y hy; lia) (by simpa using hn)
    show (a+1)+tri n (a+1)≤(x::r).sum
    simp
    lia
theorem srt_few {l:List Int}(h:∀ x∈l,0 < x)(hs:l.sum≤256):(srtS l).length < 64:=by
  apply Classical.byContradiction
  intro z
  have h1:=up_sum (l:=srtS l) (a:=0) 64 (by lia) srtS_up (fun x hx=>h x (srtS_mem.mp hx)) (by lia)
  have h2:=srt_sum h
  have h3:tri 64 0=2080:=by decide
  lia
end Rg
namespace Sh
open PySem L2 Mi
noncomputable def b0_rule_back:MS:=(sAsg (setIx 1 (mRd 3)) (mRd 2))
noncomputable def l0_rule_back:MS:=sFor (setT 2 (gsCons (setN 2) (gsCons (setN 3) gsNil))) (mEnum (mCons (mFr 0) mNil)) b0_rule_back
noncomputable def m_rule_back:MS:=(sSeq (sSet 1 (mOpF gList (mCons (mRd 0) mNil)))
    (sSeq l0_rule_back
    (sRet (mVal 1))))
noncomputable def F_rule_back:List Slot→Option Slot:=runF 1 4 m_rule_back
noncomputable def m__law_cell_at:MS:=(sSeq (sIf (mTru (mOpF gLt (mCons (mRd 1) (mCons (mOpF gLen (mCons (mRd 0) mNil)) mNil)))) (sRet (mOpF gIx (mCons (mRd 0) (mCons (mRd 1) mNil)))) sNil)
    (sRet (mC (.int 0))))
noncomputable def F__law_cell_at:List Slot→Option Slot:=runF 2 2 m__law_cell_at
noncomputable def m__law_whole:MS:=(sRet (mBl (mAnd (mTru (mOpF (gIsi "int") (mCons (mRd 0) mNil))) (mNot (mTru (mOpF (gIsi "bool") (mCons (mRd 0) mNil)))))))
noncomputable def F__law_whole:List Slot→Option Slot:=runF 1 1 m__law_whole
noncomputable def c0__law_named:M R:=mComp [4] (setN 4) (mItS (mFr 2)) mYes (mOpF gSub (mCons (mC (.int 1)) (mCons (mRd 4) mNil)))
noncomputable def c1__law_named:M R:=mComp [4] (setN 4) (mItS (mFr 2)) mYes (mOpF gSub (mCons (mC (.int 1)) (mCons (mRd 4) mNil)))
noncomputable def m__law_named:MS:=(sSeq (sSet 2 (mOpF gLst' (mCons (mOpF gMod (mCons (mOpF gDiv (mCons (mRd 1) (mCons (mC (.int 8)) mNil))) (mCons (mC (.int 2)) mNil))) (mCons (mOpF gMod (mCons (mOpF gDiv (mCons (mRd 1) (mCons (mC (.int 4)) mNil))) (mCons (mC (.int 2)) mNil))) (mCons (mOpF gMod (mCons (mOpF gDiv (mCons (mRd 1) (mCons (mC (.int 2)) mNil))) (mCons (mC (.int 2)) mNil))) (mCons (mOpF gMod (mCons (mRd 1) (mCons (mC (.int 2)) mNil))) mNil))))))
    (sSeq (sIf (mTru (mOpF (gEq false) (mCons (mRd 0) (mCons (mC (.int 0)) mNil)))) (sSet 2 (mOpF gLst' (mCons (mOpF gIx (mCons (mRd 2) (mCons (mC (.int 2)) mNil))) (mCons (mOpF gIx (mCons (mRd 2) (mCons (mC (.int 0)) mNil))) (mCons (mOpF gIx (mCons (mRd 2) (mCons (mC (.int 3)) mNil))) (mCons (mOpF gIx (mCons (mRd 2) (mCons (mC (.int 1)) mNil))) mNil)))))) sNil)
    (sSeq (sIf (mAnd (mTru (mOpF (gEq false) (mCons (mRd 0) (mCons (mC (.int 1)) mNil)))) (mTru (mOpF (gEq false) (mCons (mOpF gSum (mCons (mRd 2) mNil)) (mCons (mC (.int 1)) mNil))))) (sDrop (mMeth 2 gRev mNil)) (sIf (mAnd (mTru (mOpF (gEq false) (mCons (mRd 0) (mCons (mC (.int 1)) mNil)))) (mAnd (mTru (mOpF (gEq false) (mCons (mOpF gIx (mCons (mRd 2) (mCons (mC (.int 0)) mNil))) (mCons (mOpF gIx (mCons (mRd 2) (mCons (mC (.int 3)) mNil))) mNil)))) (mAnd (mTru (mOpF (gEq false) (mCons (mOpF gIx (mCons (mRd 2) (mCons (mC (.int 1)) mNil))) (mCons (mOpF gIx (mCons (mRd 2) (mCons (mC (.int 2)) mNil))) mNil)))) (mTru (mOpF (gEq false) (mCons (mOpF gSum (mCons (mRd 2) mNil)) (mCons (mC (.int 2)) mNil))))))) (sSet 2 c1__law_named) sNil))
    (sSeq (sIf (mAnd (mTru (mOpF (gEq false) (mCons (mRd 0) (mCons (mC (.int 2)) mNil)))) (mTru (mOpF (gEq true) (mCons (mOpF gSum (mCons (mRd 2) mNil)) (mCons (mC (.int 2)) mNil))))) (sSeq (sSet 3 (mOpF (gEq false) (mCons (mOpF gSum (mCons (mRd 2) mNil)) (mCons (mC (.int 3)) mNil))))
    (sSeq (sSet 2 c0__law_named)
    (sIf (mTru (mRd 3)) (sDrop (mMeth 2 gRev mNil)) sNil))) sNil)
    (sRet (mOpF gAdd (mCons (mOpF gAdd (mCons (mOpF gAdd (mCons (mOpF gMul (mCons (mC (.int 8)) (mCons (mOpF gIx (mCons (mRd 2) (mCons (mC (.int 0)) mNil))) mNil))) (mCons (mOpF gMul (mCons (mC (.int 4)) (mCons (mOpF gIx (mCons (mRd 2) (mCons (mC (.int 1)) mNil))) mNil))) mNil))) (mCons (mOpF gMul (mCons (mC (.int 2)) (mCons (mOpF gIx (mCons (mRd 2) (mCons (mC (.int 2)) mNil))) mNil))) mNil))) (mCons (mOpF gIx (mCons (mRd 2) (mCons (mC (.int 3)) mNil))) mNil))))))))
noncomputable def F__law_named:List Slot→Option Slot:=runF 2 5 m__law_named
noncomputable def b0__law_rule_by:MS:=(sSeq (sSet 0 (mOpF gMod (mCons (mOpF gAdd (mCons (mOpF gMul (mCons (mRd 0) (mCons (mC (.int 48271)) mNil))) (mCons (mC (.int 29)) mNil))) (mCons (mC (.int 2147483647)) mNil))))
    (sDrop (mMeth 3 gAppend (mCons (mMeth 2 gPopAt (mCons (mOpF gMod (mCons (mOpF gDiv (mCons (mRd 0) (mCons (mC (.int 3)) mNil))) (mCons (mOpF gLen (mCons (mRd 2) mNil)) mNil))) mNil)) mNil))))
noncomputable def l0__law_rule_by:MS:=sWhile (mTru (mOpF gGt (mCons (mOpF gLen (mCons (mRd 2) mNil)) (mCons (mC (.int 0)) mNil)))) b0__law_rule_by 100
noncomputable def b1__law_rule_by:MS:=(sSeq (sSet 0 (mOpF gMod (mCons (mOpF gAdd (mCons (mOpF gMul (mCons (mRd 0) (mCons (mC (.int 48271)) mNil))) (mCons (mC (.int 7)) mNil))) (mCons (mC (.int 2147483647)) mNil))))
    (sSeq (sSet 5 (mOpF gMod (mCons (mOpF gDiv (mCons (mRd 0) (mCons (mC (.int 5)) mNil))) (mCons (mOpF gLen (mCons (mRd 3) mNil)) mNil))))
    (sSeq (sSet 6 (mOpF gMod (mCons (mOpF gDiv (mCons (mOpF gDiv (mCons (mRd 0) (mCons (mC (.int 11)) mNil))) (mCons (mOpF gLen (mCons (mRd 3) mNil)) mNil))) (mCons (mOpF gLen (mCons (mRd 3) mNil)) mNil))))
    (sAsg (setT 2 (gsCons (setIx 3 (mRd 5)) (gsCons (setIx 3 (mRd 6)) gsNil))) (mOpF gTup' (mCons (mOpF gIx (mCons (mRd 3) (mCons (mRd 6) mNil))) (mCons (mOpF gIx (mCons (mRd 3) (mCons (mRd 5) mNil))) mNil)))))))
noncomputable def l1__law_rule_by:MS:=sFor (setN 4) (mRng1 (mCons (mC (.int 3)) mNil)) b1__law_rule_by
noncomputable def c0__law_rule_by:M R:=mComp [4] (setN 4) (mItS (mFr 2)) mYes (mOpF (ofLen 2 F__law_named) (mCons (mOpF gMod (mCons (mOpF gDiv (mCons (mRd 0) (mCons (mC (.int 5)) mNil))) (mCons (mC (.int 3)) mNil))) (mCons (mRd 4) mNil)))
noncomputable def c1__law_rule_by:M R:=mComp [4] (setN 4) (mRng1 (mCons (mOpF gMul (mCons (mOpF gMul (mCons (mOpF gMul (mCons (mRd 1) (mCons (mRd 1) mNil))) (mCons (mRd 1) mNil))) (mCons (mRd 1) mNil))) mNil)) mYes (mRd 4)
noncomputable def m__law_rule_by:MS:=(sSeq (sSet 2 c1__law_rule_by)
    (sSeq (sIf (mTru (mOpF (gEq false) (mCons (mOpF gMod (mCons (mRd 0) (mCons (mC (.int 5)) mNil))) (mCons (mC (.int 0)) mNil)))) (sRet (mIf (mTru (mOpF (gEq false) (mCons (mRd 1) (mCons (mC (.int 2)) mNil)))) c0__law_rule_by (mVal 2))) sNil)
    (sSeq (sSet 3 (mOpF gLst' mNil))
    (sSeq (sIf (mTru (mOpF (gEq false) (mCons (mOpF gMod (mCons (mRd 0) (mCons (mC (.int 5)) mNil))) (mCons (mC (.int 1)) mNil)))) (sSeq (sSet 3 (mOpF gList (mCons (mRd 2) mNil)))
    (sSeq l1__law_rule_by
    (sRet (mVal 3)))) sNil)
    (sSeq l0__law_rule_by
    (sRet (mVal 3)))))))
noncomputable def F__law_rule_by:List Slot→Option Slot:=runF 2 7 m__law_rule_by
noncomputable def m_block_of:MS:=(sRet (mOpF gTup' (mCons (mOpF gMod (mCons (mOpF gDiv (mCons (mRd 0) (mCons (mOpF gPow (mCons (mRd 1) (mCons (mC (.int 3)) mNil))) mNil))) (mCons (mRd 1) mNil))) (mCons (mOpF gMod (mCons (mOpF gDiv (mCons (mRd 0) (mCons (mOpF gPow (mCons (mRd 1) (mCons (mC (.int 2)) mNil))) mNil))) (mCons (mRd 1) mNil))) (mCons (mOpF gMod (mCons (mOpF gDiv (mCons (mRd 0) (mCons (mRd 1) mNil))) (mCons (mRd 1) mNil))) (mCons (mOpF gMod (mCons (mRd 0) (mCons (mRd 1) mNil))) mNil))))))
noncomputable def F_block_of:List Slot→Option Slot:=runF 2 2 m_block_of
noncomputable def b0_number_of:MS:=(sSet 2 (mOpF gAdd (mCons (mOpF gMul (mCons (mRd 2) (mCons (mRd 1) mNil))) (mCons (mRd 3) mNil))))
noncomputable def l0_number_of:MS:=sFor (setN 3) (mItS (mFr 0)) b0_number_of
noncomputable def m_number_of:MS:=(sSeq (sSet 2 (mC (.int 0)))
    (sSeq l0_number_of
    (sRet (mVal 2))))
noncomputable def F_number_of:List Slot→Option Slot:=runF 2 4 m_number_of
noncomputable def c0_moved_row:M R:=mComp [3] (setN 3) (mRng1 (mCons (mRd 2) mNil)) mYes (mOpF gIx (mCons (mRd 0) (mCons (mOpF gMod (mCons (mOpF gSub (mCons (mRd 3) (mCons (mRd 1) mNil))) (mCons (mRd 2) mNil))) mNil)))
noncomputable def m_moved_row:MS:=(sSeq (sSet 2 (mOpF gLen (mCons (mRd 0) mNil)))
    (sRet (mOpF gTuple (mCons c0_moved_row mNil))))
noncomputable def F_moved_row:List Slot→Option Slot:=runF 2 4 m_moved_row
noncomputable def c0_moved:M R:=mComp [4] (setN 4) (mRng1 (mCons (mRd 3) mNil)) mYes (mOpF (ofLen 2 F_moved_row) (mCons (mOpF gIx (mCons (mRd 0) (mCons (mOpF gMod (mCons (mOpF gSub (mCons (mRd 4) (mCons (mRd 2) mNil))) (mCons (mRd 3) mNil))) mNil))) (mCons (mRd 1) mNil)))
noncomputable def m_moved:MS:=(sSeq (sSet 3 (mOpF gLen (mCons (mRd 0) mNil)))
    (sRet (mOpF gTuple (mCons c0_moved mNil))))
noncomputable def F_moved:List Slot→Option Slot:=runF 3 5 m_moved
noncomputable def b0_stepped_rows:MS:=(sSeq (sSet 7 (mOpF gCat (mCons (mSl (mRd 0) (mPt (mRd 6)) (mPt (mOpF gAdd (mCons (mRd 6) (mCons (mC (.int 2)) mNil))))) (mCons (mSl (mRd 1) (mPt (mRd 6)) (mPt (mOpF gAdd (mCons (mRd 6) (mCons (mC (.int 2)) mNil))))) mNil))))
    (sSeq (sSet 8 (mOpF gIx (mCons (mRd 2) (mCons (mOpF (ofLen 2 F_number_of) (mCons (mRd 7) (mCons (mRd 3) mNil))) mNil))))
    (sSeq (sDrop (mMeth 4 gExtend (mCons (mSl (mRd 8) mNoP (mPt (mC (.int 2)))) mNil)))
    (sDrop (mMeth 5 gExtend (mCons (mSl (mRd 8) (mPt (mC (.int 2))) mNoP) mNil))))))
noncomputable def l0_stepped_rows:MS:=sFor (setN 6) (mRng3 (mCons (mC (.int 0)) (mCons (mOpF gLen (mCons (mRd 0) mNil)) (mCons (mC (.int 2)) mNil)))) b0_stepped_rows
noncomputable def m_stepped_rows:MS:=(sSeq (sSet 4 (mOpF gLst' mNil))
    (sSeq (sSet 5 (mOpF gLst' mNil))
    (sSeq l0_stepped_rows
    (sRet (mOpF gLst' (mCons (mOpF gTuple (mCons (mRd 4) mNil)) (mCons (mOpF gTuple (mCons (mRd 5) mNil)) mNil)))))))
noncomputable def F_stepped_rows:List Slot→Option Slot:=runF 4 9 m_stepped_rows
noncomputable def b0_stepped:MS:=(sDrop (mMeth 6 gExtend (mCons (mOpF (ofLen 4 F_stepped_rows) (mCons (mOpF gIx (mCons (mRd 5) (mCons (mRd 7) mNil))) (mCons (mOpF gIx (mCons (mRd 5) (mCons (mOpF gAdd (mCons (mRd 7) (mCons (mC (.int 1)) mNil))) mNil))) (mCons (mRd 1) (mCons (mRd 2) mNil))))) mNil)))
noncomputable def l0_stepped:MS:=sFor (setN 7) (mRng3 (mCons (mC (.int 0)) (mCons (mOpF gLen (mCons (mRd 5) mNil)) (mCons (mC (.int 2)) mNil)))) b0_stepped
noncomputable def m_stepped:MS:=(sSeq (sSet 4 (mOpF gMod (mCons (mRd 3) (mCons (mC (.int 2)) mNil))))
    (sSeq (sSet 5 (mOpF (ofLen 3 F_moved) (mCons (mRd 0) (mCons (mOpF gNeg (mCons (mRd 4) mNil)) (mCons (mOpF gNeg (mCons (mRd 4) mNil)) mNil)))))
    (sSeq (sSet 6 (mOpF gLst' mNil))
    (sSeq l0_stepped
    (sRet (mOpF (ofLen 3 F_moved) (mCons (mOpF gTuple (mCons (mRd 6) mNil)) (mCons (mRd 4) (mCons (mRd 4) mNil)))))))))
noncomputable def F_stepped:List Slot→Option Slot:=runF 4 8 m_stepped
noncomputable def c0_outcomes_of:M R:=mComp [2] (setN 2) (mItS (mFr 0)) mYes (mOpF (ofLen 2 F_block_of) (mCons (mRd 2) (mCons (mRd 1) mNil)))
noncomputable def m_outcomes_of:MS:=(sRet c0_outcomes_of)
noncomputable def F_outcomes_of:List Slot→Option Slot:=runF 2 3 m_outcomes_of
noncomputable def b0_forward:MS:=(sSet 6 (mOpF (ofLen 4 F_stepped) (mCons (mRd 6) (mCons (mRd 5) (mCons (mRd 2) (mCons (mOpF gAdd (mCons (mRd 3) (mCons (mRd 7) mNil))) mNil))))))
noncomputable def l0_forward:MS:=sFor (setN 7) (mRng1 (mCons (mRd 4) mNil)) b0_forward
noncomputable def m_forward:MS:=(sSeq (sSet 5 (mOpF (ofLen 2 F_outcomes_of) (mCons (mRd 1) (mCons (mRd 2) mNil))))
    (sSeq (sSet 6 (mVal 0))
    (sSeq l0_forward
    (sRet (mVal 6)))))
noncomputable def F_forward:List Slot→Option Slot:=runF 5 8 m_forward
noncomputable def c0__law_step:M R:=mComp [19] (setN 19) (mItS (mFr 6)) mYes (mOpF gTuple (mCons (mRd 19) mNil))
noncomputable def b0__law_step:MS:=(sSet 16 (mOpF gDiv (mCons (mRd 16) (mCons (mRd 2) mNil))))
noncomputable def l0__law_step:MS:=sFor (setN 18) (mRng1 (mCons (mOpF gSub (mCons (mC (.int 3)) (mCons (mRd 17) mNil))) mNil)) b0__law_step
noncomputable def b1__law_step:MS:=(sSet 14 (mOpF gAdd (mCons (mOpF gMul (mCons (mRd 14) (mCons (mRd 2) mNil))) (mCons (mRd 15) mNil))))
noncomputable def l1__law_step:MS:=sFor (setN 15) (mItS (mFr 13)) b1__law_step
noncomputable def b2__law_step:MS:=(sSeq (sSet 9 (mIf (mTru (mOpF (gEq false) (mCons (mOpF gMod (mCons (mOpF gSub (mCons (mRd 7) (mCons (mRd 3) mNil))) (mCons (mC (.int 2)) mNil))) (mCons (mC (.int 0)) mNil)))) (mVal 7) (mOpF gMod (mCons (mOpF gSub (mCons (mRd 7) (mCons (mC (.int 1)) mNil))) (mCons (mRd 4) mNil)))))
    (sSeq (sSet 10 (mIf (mTru (mOpF (gEq false) (mCons (mOpF gMod (mCons (mOpF gSub (mCons (mRd 8) (mCons (mRd 3) mNil))) (mCons (mC (.int 2)) mNil))) (mCons (mC (.int 0)) mNil)))) (mVal 8) (mOpF gMod (mCons (mOpF gSub (mCons (mRd 8) (mCons (mC (.int 1)) mNil))) (mCons (mRd 5) mNil)))))
    (sSeq (sSet 11 (mOpF gMod (mCons (mOpF gAdd (mCons (mRd 9) (mCons (mC (.int 1)) mNil))) (mCons (mRd 4) mNil))))
    (sSeq (sSet 12 (mOpF gMod (mCons (mOpF gAdd (mCons (mRd 10) (mCons (mC (.int 1)) mNil))) (mCons (mRd 5) mNil))))
    (sSeq (sSet 13 (mOpF gLst' (mCons (mOpF gIx (mCons (mOpF gIx (mCons (mRd 0) (mCons (mRd 9) mNil))) (mCons (mRd 10) mNil))) (mCons (mOpF gIx (mCons (mOpF gIx (mCons (mRd 0) (mCons (mRd 9) mNil))) (mCons (mRd 12) mNil))) (mCons (mOpF gIx (mCons (mOpF gIx (mCons (mRd 0) (mCons (mRd 11) mNil))) (mCons (mRd 10) mNil))) (mCons (mOpF gIx (mCons (mOpF gIx (mCons (mRd 0) (mCons (mRd 11) mNil))) (mCons (mRd 12) mNil))) mNil))))))
    (sSeq (sSet 14 (mC (.int 0)))
    (sSeq l1__law_step
    (sSeq (sSet 16 (mOpF gIx (mCons (mRd 1) (mCons (mRd 14) mNil))))
    (sSeq (sSet 17 (mOpF gAdd (mCons (mOpF gMul (mCons (mC (.int 2)) (mCons (mOpF gInt (mCons (mOpF (gEq true) (mCons (mRd 7) (mCons (mRd 9) mNil))) mNil)) mNil))) (mCons (mOpF gInt (mCons (mOpF (gEq true) (mCons (mRd 8) (mCons (mRd 10) mNil))) mNil)) mNil))))
    (sSeq l0__law_step
    (sAsg (setIx2 6 (m0V 7) (m0V 8)) (mOpF gMod (mCons (mRd 16) (mCons (mRd 2) mNil))))))))))))))
noncomputable def l2__law_step:MS:=sFor (setN 8) (mRng1 (mCons (mRd 5) mNil)) b2__law_step
noncomputable def b3__law_step:MS:=l2__law_step
noncomputable def l3__law_step:MS:=sFor (setN 7) (mRng1 (mCons (mRd 4) mNil)) b3__law_step
noncomputable def c1__law_step:M R:=mComp2 [19] (setN 19) (mItS (mFr 0)) mYes (mOpF gList (mCons (mRd 19) mNil))
noncomputable def m__law_step:MS:=(sSeq (sSet 4 (mOpF gLen (mCons (mRd 0) mNil)))
    (sSeq (sSet 5 (mOpF gLen (mCons (mOpF gIx (mCons (mRd 0) (mCons (mC (.int 0)) mNil))) mNil)))
    (sSeq (sSet 6 c1__law_step)
    (sSeq l3__law_step
    (sRet (mOpF gTuple (mCons c0__law_step mNil)))))))
noncomputable def F__law_step:List Slot→Option Slot:=runF 4 20 m__law_step
noncomputable def b0_ring_of:MS:=(sSeq (sDrop (mMeth 3 gAppend (mCons (mRd 4) mNil)))
    (sSet 4 (mOpF (ofLen 5 F_forward) (mCons (mRd 4) (mCons (mRd 1) (mCons (mRd 2) (mCons (mC (.int 0)) (mCons (mC (.int 2)) mNil))))))))
noncomputable def l0_ring_of:MS:=sWhile (mTru (mOpF (gEq true) (mCons (mRd 4) (mCons (mRd 0) mNil)))) b0_ring_of 300
noncomputable def m_ring_of:MS:=(sSeq (sSet 3 (mOpF gLst' (mCons (mRd 0) mNil)))
    (sSeq (sSet 4 (mOpF (ofLen 5 F_forward) (mCons (mRd 0) (mCons (mRd 1) (mCons (mRd 2) (mCons (mC (.int 0)) (mCons (mC (.int 2)) mNil)))))))
    (sSeq l0_ring_of
    (sRet (mVal 3)))))
noncomputable def F_ring_of:List Slot→Option Slot:=runF 3 5 m_ring_of
noncomputable def c0_all_tuples:M R:=mComp [6] (setN 6) (mItS (mFr 0)) mYes (mOpF gCatA (mCons (mRd 5) (mCons (mOpF gTup' (mCons (mRd 6) mNil)) mNil)))
noncomputable def b0_all_tuples:MS:=(sDrop (mMeth 4 gExtend (mCons c0_all_tuples mNil)))
noncomputable def l0_all_tuples:MS:=sFor (setN 5) (mItS (mFr 2)) b0_all_tuples
noncomputable def b1_all_tuples:MS:=(sSeq (sSet 4 (mOpF gLst' mNil))
    (sSeq l0_all_tuples
    (sSet 2 (mVal 4))))
noncomputable def l1_all_tuples:MS:=sFor (setN 3) (mRng1 (mCons (mRd 1) mNil)) b1_all_tuples
noncomputable def m_all_tuples:MS:=(sSeq (sSet 2 (mOpF gLst' (mCons (mOpF gTup' mNil) mNil)))
    (sSeq l1_all_tuples
    (sRet (mVal 2))))
noncomputable def F_all_tuples:List Slot→Option Slot:=runF 2 7 m_all_tuples
noncomputable def m_all_boards:MS:=(sSeq (sSet 3 (mOpF (ofLen 2 F_all_tuples) (mCons (mOpF gLRng (mCons (mRd 0) mNil)) (mCons (mRd 1) mNil))))
    (sRet (mOpF (ofLen 2 F_all_tuples) (mCons (mRd 3) (mCons (mRd 2) mNil)))))
noncomputable def F_all_boards:List Slot→Option Slot:=runF 3 4 m_all_boards
noncomputable def b0__law_boards:MS:=(sSeq (sDrop (mMeth 10 gAppend (mCons (mOpF gMod (mCons (mRd 8) (mCons (mRd 0) mNil))) mNil)))
    (sSet 8 (mOpF gDiv (mCons (mRd 8) (mCons (mRd 0) mNil)))))
noncomputable def l0__law_boards:MS:=sFor (setN 11) (mRng1 (mCons (mRd 1) mNil)) b0__law_boards
noncomputable def b1__law_boards:MS:=(sSeq (sSet 10 (mOpF gLst' mNil))
    (sSeq l0__law_boards
    (sDrop (mMeth 7 gAppend (mCons (mOpF gTuple (mCons (mRd 10) mNil)) mNil)))))
noncomputable def l1__law_boards:MS:=sFor (setN 9) (mRng1 (mCons (mRd 2) mNil)) b1__law_boards
noncomputable def b2__law_boards:MS:=(sSeq (sSet 7 (mOpF gLst' mNil))
    (sSeq (sSet 8 (mVal 6))
    (sSeq l1__law_boards
    (sDrop (mMeth 3 gAppend (mCons (mOpF gTuple (mCons (mRd 7) mNil)) mNil))))))
noncomputable def l2__law_boards:MS:=sFor (setN 6) (mRng1 (mCons (mRd 4) mNil)) b2__law_boards
noncomputable def b3__law_boards:MS:=(sSet 4 (mOpF gMul (mCons (mRd 4) (mCons (mRd 0) mNil))))
noncomputable def l3__law_boards:MS:=sFor (setN 5) (mRng1 (mCons (mOpF gMul (mCons (mRd 1) (mCons (mRd 2) mNil))) mNil)) b3__law_boards
noncomputable def m__law_boards:MS:=(sSeq (sSet 3 (mOpF gLst' mNil))
    (sSeq (sSet 4 (mC (.int 1)))
    (sSeq l3__law_boards
    (sSeq l2__law_boards
    (sRet (mVal 3))))))
noncomputable def F__law_boards:List Slot→Option Slot:=runF 3 12 m__law_boards
noncomputable def c0__law_rings:M R:=mComp [7] (setN 7) (mItS (mOpF gSrt (mCons (mRd 5) mNil))) mYes (mOpF gTup' (mCons (mRd 7) (mCons (mMeth 5 gCount (mCons (mRd 7) mNil)) mNil)))
noncomputable def b0__law_rings:MS:=(sSeq (sAsg (setB 4 (mRd 6)) (mC (.bl true)))
    (sSeq (sSet 7 (mOpF gAdd (mCons (mRd 7) (mCons (mC (.int 1)) mNil))))
    (sSet 6 (mOpF (ofLen 4 F__law_step) (mCons (mOpF (ofLen 4 F__law_step) (mCons (mRd 6) (mCons (mRd 0) (mCons (mRd 1) (mCons (mC (.int 0)) mNil))))) (mCons (mRd 0) (mCons (mRd 1) (mCons (mC (.int 1)) mNil))))))))
noncomputable def l0__law_rings:MS:=sWhile (mNotB (mRd 6) 4) b0__law_rings 300
noncomputable def b1__law_rings:MS:=(sSeq (sSet 7 (mC (.int 0)))
    (sSeq l0__law_rings
    (sIf (mTru (mOpF gGt (mCons (mRd 7) (mCons (mC (.int 0)) mNil)))) (sDrop (mMeth 5 gAppend (mCons (mRd 7) mNil))) sNil)))
noncomputable def l1__law_rings:MS:=sFor (setN 6) (mItS (mOpF (ofLen 3 F__law_boards) (mCons (mRd 1) (mCons (mRd 2) (mCons (mRd 3) mNil))))) b1__law_rings
noncomputable def m__law_rings:MS:=(sSeq (sSet 4 (mDct (.bd [])))
    (sSeq (sSet 5 (mOpF gLst' mNil))
    (sSeq l1__law_rings
    (sRet c0__law_rings))))
noncomputable def F__law_rings:List Slot→Option Slot:=runF 4 8 m__law_rings
end Sh
set_option maxHeartbeats 4000000
local macro_rules | `(tactic| walk_at $s:str) => do
    let w:=s.getString
    unless w.startsWith "mi" || w.startsWith "mj" do Lean.Macro.throwUnsupported
    let p:=if w.endsWith "f" then "forL " else if w.endsWith "c" then "mComp compL maskE unmask mYes plainAt noOwn forL " else ""
    let xs ←((p ++ "runF sSeq sIf mTru mOpF mCons mNil mRd mVal mFr fzS drs dr rdS gLen gLt gGt gI yes2 fresh sRet sNil mC gIx gAdd gSub gMul gDiv gMod gPow cMul cDiv cMod cPow gNeg sSet sDrop setN gsNil gsCons setT imm sAsg setIx ownAt mMeth gAppend gPopAt gRev vals gTup' gLst' gList gTuple gInt gIsi isT tyN gSum intsOf mNot mAnd mOr mBl mIf ofLen mRng1 mItS mEnum sFor mRng3 mSl gSl mNoP mPt gCat gExtend setIx2 own2At m0V xO xSeq xIf xRaise xFor runX nrm sTryA putR tbC tb0 isNo intR mPick newR mNotB brdR bdAt nnAt setB setNN mGetN twoI mItems mDct gSrt gLRng gCount xExpr mPrs mPrss gCatA mCallX big gEq okP toS toP PySem.PyData.canLay0 PySem.PyData.depth PySem.PyData.eqv PySem.PyData.canLayAll0 PySem.PyData.depthAll PySem.PyData.eqvAll toPs").splitOn " ").toArray.mapM fun n=>`(Lean.Parser.Tactic.simpLemma| $(Lean.mkIdent (if n.startsWith "PySem" then n.toName else `Mi++n.toName)):ident)
    if w.startsWith "mj" then `(tactic| simp [$xs,*, *]) else `(tactic| simp -implicitDefEqProofs [$xs,*, *])
namespace Sh
open PySem L2 Mi
theorem cell_at (ns:List Int)(k:Nat):F__law_cell_at [.fz (ns.map D.int),.val (.int k)]=some (.val (.int (cell ns k))):=by
  unfold F__law_cell_at m__law_cell_at cell
  by_cases h:k < ns.length
  · have e:=atI_ints h
    walk_at "mj"
  · walk_at "mj"
noncomputable def idn (n:Nat):List Int:=(List.range n).map fun (i:Nat)=>(i:Int)
noncomputable def RuleOf (n:Nat)(rs:List Int):Prop:=rs.Perm (idn n)
theorem RuleOf.len {n:Nat}{rs:List Int}(h:RuleOf n rs):rs.length=n:=by
  have:=h.length_eq
  simpa [idn] using this
theorem RuleOf.bd {n:Nat}{rs:List Int}(h:RuleOf n rs){r:Int}(hr:r∈rs):0≤r∧r < n:=by
  have:=h.mem_iff.mp hr
  obtain ⟨i,hi,e⟩:=List.mem_map.mp this
  have:=List.mem_range.mp hi
  lia
theorem swap_perm {l:List Int}{i j:Nat}(hi:i < l.length)(hj:j < l.length):((l.set i (l.getD j 0)).set j (l.getD i 0)).Perm l:=by
  rw [List.getD_eq_getElem?_getD,List.getD_eq_getElem?_getD,List.getElem?_eq_getElem hi,List.getElem?_eq_getElem hj]
  simp only [Option.getD_some]
  rw [List.perm_iff_count]
  intro x
  rw [List.count_set (by simpa using hj),List.count_set hi,List.getElem_set]
  have hci:∀ (k:Nat) (hk:k < l.length),l[k]=x→0 < l.count x:=fun k hk e=>List.count_pos_iff.mpr (e ▸ List.getElem_mem hk)
  by_cases e:i=j
  · subst e
    simp only [if_true]
    by_cases h:l[i]=x
    · have:=hci i hi h
      simp [h]; lia
    · simp [h]
  · rw [if_neg e]
    by_cases h1:l[i]=x<;>by_cases h2:l[j]=x
    · have:=hci i hi h1
      simp [h1,h2]; lia
    · have:=hci i hi h1
      simp [h1,h2]; lia
    · have:=hci j hj h2
      simp [h1,h2]
    · simp [h1,h2]
noncomputable def nmd (kind number:Int):Int:=match F__law_named [.val (.int kind),.val (.int number)] with
  | some (.val (.int r))=>r
  | _=>0
theorem named_all:(List.range 3).all (fun k=>(List.range 16).all fun n=>match F__law_named [.val (.int (k:Nat)),.val (.int (n:Nat))] with
  | some (.val (.int _))=>true
  | _=>false)=true:=by decide +kernel
theorem named_perm:(List.range 3).all (fun k=>decide (((List.range 16).map fun (n:Nat)=>nmd (k:Nat) (n:Nat)).isPerm (idn 16)))=true:=by decide +kernel
theorem named_eq {k n:Int}(h1:0≤k)(h2:k < 3)(h3:0≤n)(h4:n < 16):F__law_named [.val (.int k),.val (.int n)]=some (.val (.int (nmd k n))):=by
  have h:=List.all_eq_true.mp named_all k.toNat (List.mem_range.mpr (by lia))
  have h:=List.all_eq_true.mp h n.toNat (List.mem_range.mpr (by lia))
  rw [Int.toNat_of_nonneg h1,Int.toNat_of_nonneg h3] at h
  unfold nmd
  generalize F__law_named [.val (.int k),.val (.int n)]=q at h ⊢
  match q,h with
  | some (.val (.int r)),_=>rfl
theorem named_rule {k:Int}(h1:0≤k)(h2:k < 3):RuleOf 16 ((List.range 16).map fun (n:Nat)=>nmd k (n:Nat)):=by
  have h:=List.all_eq_true.mp named_perm k.toNat (List.mem_range.mpr (by lia))
  rw [Int.toNat_of_nonneg h1] at h
  exact List.isPerm_iff.mp (by simpa using h)
theorem idn_map (n:Nat):((rangeD 0 n).map fun s=>match s with
  | .val d=>d
  | _=>.non)=(idn n).map D.int:=by
  unfold rangeD idn
  rw [List.map_map,List.map_map]
  apply List.map_congr_left
  intro i _
  simp
theorem idn_len (n:Nat):(idn n).length=n:=by simp [idn]
theorem rest_eq {c x:Int}{n:Nat}(h:(c=2∧n=16)∨(c=3∧n=81)):c1__law_rule_by [some (.val (.int x)),some (.val (.int c)),none,none,none,none,none]=
    some (.of (.own ((idn n).map D.int)),[some (.val (.int x)),some (.val (.int c)),none,none,none,none,none]):=by
  unfold c1__law_rule_by
  rw [←idn_map]
  refine mComp_setN _ (its:=rangeD 0 n) ?_ (by simp) rfl (by rw [rangeD_len]; rcases h with ⟨_,rfl⟩ | ⟨_,rfl⟩<;>decide) (fun s hs=>?_) (fun s hs=>?_)
  · rcases h with ⟨rfl,rfl⟩ | ⟨rfl,rfl⟩<;>rfl
  · obtain ⟨i,_,rfl⟩:=rangeD_mem hs; rfl
  · obtain ⟨i,_,rfl⟩:=rangeD_mem hs; rfl
theorem getD_eq {l:List Int}{i:Nat}(h:i < l.length):l.getD i 0=l[i]:=by rw [List.getD_eq_getElem?_getD,List.getElem?_eq_getElem h]; rfl
theorem getD_mem {l:List Int}{i:Nat}(h:i < l.length):l.getD i 0∈l:=by rw [getD_eq h]; exact List.getElem_mem h
theorem atI_int {ns:List Int}{k:Int}(h0:0≤k)(h:k < ns.length):atI (ns.map D.int) k=some (.int (ns.getD k.toNat 0)):=by
  obtain ⟨j,rfl⟩:=Int.eq_ofNat_of_zero_le h0
  exact atI_ints (by lia)
theorem ixN_int {n:Nat}{k:Int}(h0:0≤k)(h:k < n):ixN n k=some k.toNat:=by
  unfold ixN
  rw [if_pos h0,if_pos h]
theorem set_int {ns:List Int}{j:Nat}{x:Int}:(ns.map D.int).set j (.int x)=(ns.set j x).map D.int:=by rw [List.map_set]
theorem c0_eq {x:Int}:c0__law_rule_by [some (.val (.int x)),some (.val (.int 2)),some (.own ((idn 16).map D.int)),none,none,none,none]=
    some (.of (.own (((List.range 16).map fun (n:Nat)=>nmd (x / 5 % 3) (n:Nat)).map D.int)),[some (.val (.int x)),some (.val (.int 2)),some (.fz ((idn 16).map D.int)),none,none,none,none]):=by
  unfold c0__law_rule_by
  have e:(((idn 16).map D.int).map Slot.val).map (fun s=>match s with
      | .val (.int n)=>D.int (nmd (x / 5 % 3) n)
      | _=>.non)=((List.range 16).map fun (n:Nat)=>nmd (x / 5 % 3) (n:Nat)).map D.int:=by
    unfold idn
    rw [List.map_map,List.map_map,List.map_map,List.map_map]
    rfl
  rw [←e]
  refine mComp_setN _ (its:=((idn 16).map D.int).map Slot.val) rfl (by simp) rfl (by simp [idn,big]) (fun s hs=>?_) (fun s hs=>?_)
  · obtain ⟨d,_,rfl⟩:=List.mem_map.mp hs; rfl
  · obtain ⟨d,hd,rfl⟩:=List.mem_map.mp hs
    obtain ⟨n,hn,rfl⟩:=List.mem_map.mp hd
    obtain ⟨i,hi,rfl⟩:=List.mem_map.mp hn
    have hi:=List.mem_range.mp hi
    have q:=named_eq (k:=x / 5 % 3) (n:=(i:Int)) (by lia) (by lia) (by lia) (by lia)
    walk_at "mj"
theorem swaps {x c:Int}{n:Nat}{t:Slot}(hn:0 < n)(hn2:n < 1000)(rs:List Int)(hr:RuleOf n rs):∃ ρ',l1__law_rule_by [some (.val (.int x)),some (.val (.int c)),some t,some (.own (rs.map D.int)),none,none,none]=some (.nx ρ')∧
    ∃ x' rs' a b k,RuleOf n rs'∧ρ'=[some (.val (.int x')),some (.val (.int c)),some t,some (.own (rs'.map D.int)),k,a,b]:=by
  unfold l1__law_rule_by
  have h1:mRng1 (mCons (mC (.int 3)) mNil) [some (.val (.int x)),some (.val (.int c)),some t,some (.own (rs.map D.int)),none,none,none]=some (rangeD 0 3,[some (.val (.int x)),some (.val (.int c)),some t,some (.own (rs.map D.int)),none,none,none]):=rfl
  have h2:=forL_ex (tg:=setN 4) (body:=b1__law_rule_by) (its:=rangeD 0 3) (fun _ ρ=>∃ x' rs' a b k,RuleOf n rs'∧ρ=[some (.val (.int x')),some (.val (.int c)),some t,some (.own (rs'.map D.int)),k,a,b])
    (ρ:=[some (.val (.int x)),some (.val (.int c)),some t,some (.own (rs.map D.int)),none,none,none]) 0 ⟨x,rs,none,none,none,hr,rfl⟩ (fun i s ρ hi hp=>?_)
  · obtain ⟨ρ',e,q⟩:=h2
    refine ⟨ρ',?_,q⟩
    show ((mRng1 (mCons (mC (.int 3)) mNil) _).bind _)=_
    rw [h1]
    exact e
  · obtain ⟨x1,rs1,a,b,k,hr1,rfl⟩:=hp
    obtain ⟨_,rfl⟩:=rangeD_get hi
    have hl:=hr1.len
    have b1:0≤(x1*48271+7) % 2147483647 / 5 % (n:Int)∧(x1*48271+7) % 2147483647 / 5 % (n:Int) < n:=⟨Int.emod_nonneg _ (by lia),Int.emod_lt_of_pos _ (by lia)⟩
    have b2:0≤(x1*48271+7) % 2147483647 / 11 / (n:Int) % (n:Int)∧(x1*48271+7) % 2147483647 / 11 / (n:Int) % (n:Int) < n:=⟨Int.emod_nonneg _ (by lia),Int.emod_lt_of_pos _ (by lia)⟩
    generalize hA:(x1*48271+7) % 2147483647 / 5 % (n:Int)=A at b1
    generalize hB:(x1*48271+7) % 2147483647 / 11 / (n:Int) % (n:Int)=Bb at b2
    have e1:=atI_int (ns:=rs1) b1.1 (by lia)
    have e2:=atI_int (ns:=rs1) b2.1 (by lia)
    have i1:=ixN_int (n:=n) b1.1 b1.2
    have i2:=ixN_int (n:=n) b2.1 b2.2
    refine ⟨_,_,rfl,?_,⟨(x1*48271+7) % 2147483647,(rs1.set A.toNat (rs1.getD Bb.toNat 0)).set Bb.toNat (rs1.getD A.toNat 0),some (.val (.int A)),some (.val (.int Bb)),some (.val (.int (0+(i:Int)))),(swap_perm (by lia) (by lia)).trans hr1,rfl⟩⟩
    unfold b1__law_rule_by
    simp only [List.map_set]
    have z1:(0:Int) < n:=by lia
    have z2:(n:Int) < 1073741824:=by lia
    walk_at "mj"
end Sh
namespace Sh
open PySem L2 Mi
theorem erase_map:∀ (l:List Int) (i:Nat),(l.map D.int).eraseIdx i=(l.eraseIdx i).map D.int
  | [],_=>rfl
  | _::_,0=>rfl
  | a::r,i+1=>by
    show D.int a::(r.map D.int).eraseIdx i=_
    rw [erase_map r i]; rfl
theorem erase_perm:∀ (l:List Int) (i:Nat) (h:i < l.length),(l[i]::l.eraseIdx i).Perm l
  | _::_,0,_=>List.Perm.refl _
  | a::r,i+1,h=>by
    have h':i < r.length:=by simpa using h
    have ih:=erase_perm r i h'
    exact (List.Perm.swap a r[i] (r.eraseIdx i)).trans (ih.cons a)
theorem draws {x c:Int}{n:Nat}(hn2:n < 100):∃ ρ',l0__law_rule_by [some (.val (.int x)),some (.val (.int c)),some (.own ((idn n).map D.int)),some (.own []),none,none,none]=some (.nx ρ')∧
    ∃ x' rs,RuleOf n rs∧ρ'=[some (.val (.int x')),some (.val (.int c)),some (.own []),some (.own (rs.map D.int)),none,none,none]:=by
  unfold l0__law_rule_by
  have h2:=while_ex (c:=mTru (mOpF gGt (mCons (mOpF gLen (mCons (mRd 2) mNil)) (mCons (mC (.int 0)) mNil)))) (body:=b0__law_rule_by)
    (fun k ρ=>∃ x' rest out,rest.length=k∧out.length+rest.length=n∧RuleOf n (out++rest)∧ρ=[some (.val (.int x')),some (.val (.int c)),some (.own (rest.map D.int)),some (.own (out.map D.int)),none,none,none]) 100
    (ρ:=[some (.val (.int x)),some (.val (.int c)),some (.own ((idn n).map D.int)),some (.own []),none,none,none]) n ⟨x,idn n,[],idn_len n,by simp [idn],List.Perm.refl _,rfl⟩ hn2 (fun k ρ hp=>?_)
  · obtain ⟨ρ',e,q⟩:=h2
    obtain ⟨x',rest,out,h1,h2,h3,rfl⟩:=q
    have:rest=[]:=List.length_eq_zero_iff.mp h1
    subst this
    refine ⟨_,e,x',out,by simpa using h3,rfl⟩
  · obtain ⟨x1,rest,out,h1,h2,h3,rfl⟩:=hp
    refine ⟨[some (.val (.int x1)),some (.val (.int c)),some (.own (rest.map D.int)),some (.own (out.map D.int)),none,none,none],?_,fun hk=>?_,fun hk=>?_⟩
    · subst h1
      walk_at "mj"
    · exact ⟨x1,rest,out,by lia,h2,h3,rfl⟩
    · subst h1
      have z1:(0:Int) < rest.length:=by lia
      have b1:0≤(x1*48271+29) % 2147483647 / 3 % (rest.length:Int)∧(x1*48271+29) % 2147483647 / 3 % (rest.length:Int) < rest.length:=⟨Int.emod_nonneg _ (by lia),Int.emod_lt_of_pos _ (by lia)⟩
      generalize hA:(x1*48271+29) % 2147483647 / 3 % (rest.length:Int)=A at b1
      have i1:=ixN_int (n:=rest.length) b1.1 b1.2
      have hlt:A.toNat < rest.length:=by lia
      have g1:(rest.map D.int)[A.toNat]?=some (.int (rest.getD A.toNat 0)):=by rw [List.getElem?_map,List.getElem?_eq_getElem hlt,getD_eq hlt]; rfl
      refine ⟨[some (.val (.int ((x1*48271+29) % 2147483647))),some (.val (.int c)),some (.own ((rest.eraseIdx A.toNat).map D.int)),some (.own ((out++[rest.getD A.toNat 0]).map D.int)),none,none,none],?_,?_⟩
      · unfold b0__law_rule_by
        have z3:rest.length < 1000000:=by lia
        have z4:out.length < 1000000:=by lia
        have g2:(rest.map D.int).eraseIdx A.toNat=(rest.eraseIdx A.toNat).map D.int:=erase_map rest A.toNat
        simp only [List.getElem?_map] at g1
        walk_at "mj"
      · refine ⟨_,_,_,?_,?_,?_,rfl⟩
        · rw [List.length_eraseIdx_of_lt hlt]
        · rw [List.length_eraseIdx_of_lt hlt,List.length_append]; simp; lia
        · refine List.Perm.trans ?_ h3
          rw [List.append_assoc]
          refine List.Perm.append_left out ?_
          rw [getD_eq hlt]
          exact erase_perm rest A.toNat hlt
theorem rule_by {x c:Int}{n:Nat}(h:(c=2∧n=16)∨(c=3∧n=81)):∃ rs,RuleOf n rs∧F__law_rule_by [.val (.int x),.val (.int c)]=some (.own (rs.map D.int)):=by
  have hr:=rest_eq (x:=x) h
  have hnn:0 < n∧n < 100:=by rcases h with ⟨_,rfl⟩ | ⟨_,rfl⟩<;>decide
  by_cases h0:x % 5=0
  · rcases h with ⟨rfl,rfl⟩ | ⟨rfl,rfl⟩
    · refine ⟨_,named_rule (k:=x / 5 % 3) (by lia) (by lia),?_⟩
      have h2:=c0_eq (x:=x)
      unfold F__law_rule_by m__law_rule_by
      walk_at "mj"
    · refine ⟨idn 81,List.Perm.refl _,?_⟩
      unfold F__law_rule_by m__law_rule_by
      walk_at "mj"
  · by_cases h1:x % 5=1
    · obtain ⟨ρ',e,x',rs',a,b,k,hr',rfl⟩:=swaps (x:=x) (c:=c) (t:=.own ((idn n).map D.int)) hnn.1 (by lia) (idn n) (List.Perm.refl _)
      refine ⟨rs',hr',?_⟩
      unfold F__law_rule_by m__law_rule_by
      walk_at "mj"
    · obtain ⟨ρ',e,x',rs',hr',rfl⟩:=draws (x:=x) (c:=c) (n:=n) hnn.2
      refine ⟨rs',hr',?_⟩
      unfold F__law_rule_by m__law_rule_by
      walk_at "mj"
end Sh
namespace Sh
open PySem L2 Mi
noncomputable def rwD (w:Nat)(g:Int→Int):D:=.tup ((Bd.row w g).map D.int)
noncomputable def bdL (w h:Nat)(f:Bd.Fn):List D:=(List.range h).map fun (y:Nat)=>rwD w fun x=>f x y
noncomputable def bdD (w h:Nat)(f:Bd.Fn):D:=.tup (bdL w h f)
noncomputable def vD (F:Int→D):Slot→D:=fun s=>match s with
  | .val (.int x)=>F x
  | _=>.non
theorem range_vD (F:Int→D)(n:Nat):(rangeD 0 n).map (vD F)=(List.range n).map fun (i:Nat)=>F i:=by
  unfold rangeD
  rw [List.map_map]
  apply List.map_congr_left
  intro i _
  simp [vD]
theorem row_map (w:Nat)(g:Int→Int):(Bd.row w g).map D.int=(List.range w).map fun (i:Nat)=>D.int (g i):=by
  unfold Bd.row
  rw [List.map_map]
  rfl
theorem bdL_len (w h:Nat)(f:Bd.Fn):(bdL w h f).length=h:=by simp [bdL]
theorem atI_row {w:Nat}{g:Int→Int}{k:Int}(h0:0≤k)(h:k < w):atI ((Bd.row w g).map D.int) k=some (.int (g k)):=by
  obtain ⟨j,rfl⟩:=Int.eq_ofNat_of_zero_le h0
  refine atI_nat ?_
  rw [List.getElem?_map,Bd.row_get (by lia)]
  rfl
theorem atI_bd {w h:Nat}{f:Bd.Fn}{k:Int}(h0:0≤k)(hk:k < h):atI (bdL w h f) k=some (rwD w fun x=>f x k):=by
  obtain ⟨j,rfl⟩:=Int.eq_ofNat_of_zero_le h0
  refine atI_nat ?_
  have hj:j < h:=by lia
  simp [bdL,hj]
theorem mod_bd (x:Int){w:Nat}(hw:0 < w):0≤x % (w:Int)∧x % (w:Int) < w:=⟨Int.emod_nonneg _ (by lia),Int.emod_lt_of_pos _ (by lia)⟩
theorem moved_row {w:Nat}{g:Int→Int}{a:Int}(hw:0 < w)(hz:w < 1000)(p:∀ x,g (x+w)=g x):F_moved_row [.val (rwD w g),.val (.int a)]=some (.val (rwD w fun x=>g (x - a))):=by
  have hc:c0_moved_row [some (.val (rwD w g)),some (.val (.int a)),some (.val (.int w)),none]=
      some (.of (.own ((Bd.row w fun x=>g (x - a)).map D.int)),[some (.val (rwD w g)),some (.val (.int a)),some (.val (.int w)),none]):=by
    unfold c0_moved_row
    rw [row_map,←range_vD (fun x=>D.int (g (x - a)))]
    refine mComp_setN _ (its:=rangeD 0 w) ?_ (by simp) rfl (by rw [rangeD_len]; unfold big; lia) (fun s hs=>?_) (fun s hs=>?_)
    · have h1:(w:Int) < 4611686018427387904:=by lia
      have h2:-4611686018427387904≤(w:Int):=by lia
      walk_at "mi"
    · obtain ⟨i,_,rfl⟩:=rangeD_mem hs; rfl
    · obtain ⟨i,hi,rfl⟩:=rangeD_mem hs
      have hb:=mod_bd ((i:Int) - a) hw
      have e:=atI_row (w:=w) (g:=g) hb.1 hb.2
      rw [Bd.per_mod p] at e
      have hp:(0:Int) < w:=by lia
      unfold rwD vD
      walk_at "mi"
  unfold F_moved_row m_moved_row
  have hl:((Bd.row w g).map D.int).length=w:=by rw [List.length_map,Bd.row_len]
  unfold rwD at hc ⊢
  walk_at "mi"
theorem moved {w h:Nat}{f:Bd.Fn}{a b:Int}(hw:0 < w)(hh:0 < h)(hz:w < 1000)(hz':h < 1000)(p:Bd.Per w h f):F_moved [.val (bdD w h f),.val (.int a),.val (.int b)]=some (.val (bdD w h (Bd.mv a b f))):=by
  have hc:c0_moved [some (.val (bdD w h f)),some (.val (.int a)),some (.val (.int b)),some (.val (.int h)),none]=
      some (.of (.own (bdL w h (Bd.mv a b f))),[some (.val (bdD w h f)),some (.val (.int a)),some (.val (.int b)),some (.val (.int h)),none]):=by
    unfold c0_moved
    have e0:bdL w h (Bd.mv a b f)=(rangeD 0 h).map (vD fun y=>rwD w fun x=>f (x - a) (y - b)):=by rw [range_vD]; rfl
    rw [e0]
    refine mComp_setN _ (its:=rangeD 0 h) ?_ (by simp) rfl (by rw [rangeD_len]; unfold big; lia) (fun s hs=>?_) (fun s hs=>?_)
    · have h1:(h:Int) < 4611686018427387904:=by lia
      have h2:-4611686018427387904≤(h:Int):=by lia
      walk_at "mi"
    · obtain ⟨i,_,rfl⟩:=rangeD_mem hs; rfl
    · obtain ⟨i,hi,rfl⟩:=rangeD_mem hs
      have hb:=mod_bd ((i:Int) - b) hh
      have e:=atI_bd (w:=w) (h:=h) (f:=f) hb.1 hb.2
      have e1:(fun x=>f x (((i:Int) - b) % h))=fun x=>f x ((i:Int) - b):=by funext x; exact p.mody _ _
      rw [e1] at e
      have e2:=moved_row (w:=w) (g:=fun x=>f x ((i:Int) - b)) (a:=a) hw hz (fun x=>p.1 _ _)
      have hp:(0:Int) < h:=by lia
      unfold bdD vD
      walk_at "mi"
  unfold F_moved m_moved
  have hl:=bdL_len w h f
  unfold bdD at hc ⊢
  walk_at "mi"
end Sh
namespace Sh
open PySem L2 Mi
noncomputable def bkD (c n:Int):D:=.tup [.int (Bd.dg c n 0 0),.int (Bd.dg c n 0 1),.int (Bd.dg c n 1 0),.int (Bd.dg c n 1 1)]
theorem block_of {c n:Int}(hc:Bd.Col c):F_block_of [.val (.int n),.val (.int c)]=some (.val (bkD c n)):=by
  unfold F_block_of m_block_of bkD Bd.dg
  rcases hc with rfl | rfl
  · walk_at "mj"
  · walk_at "mj"
theorem number_of {c a b d e:Int}(hc:Bd.Col c):F_number_of [.val (.tup [.int a,.int b,.int d,.int e]),.val (.int c)]=some (.val (.int (Bd.num c a b d e))):=by
  unfold F_number_of m_number_of l0_number_of b0_number_of Bd.num
  rcases hc with rfl | rfl
  · walk_at "mjf"
  · walk_at "mjf"
noncomputable def outs (c:Int)(rs:List Int):List D:=rs.map (bkD c)
theorem outcomes_of {c:Int}{rs:List Int}(hc:Bd.Col c)(hz:rs.length < 1000):F_outcomes_of [.fz (rs.map D.int),.val (.int c)]=some (.own (outs c rs)):=by
  have h0:c0_outcomes_of [some (.fz (rs.map D.int)),some (.val (.int c)),none]=some (.of (.own (outs c rs)),[some (.fz (rs.map D.int)),some (.val (.int c)),none]):=by
    unfold c0_outcomes_of
    have e0:outs c rs=((rs.map D.int).map Slot.val).map (vD (bkD c)):=by
      unfold outs
      rw [List.map_map,List.map_map]
      rfl
    rw [e0]
    refine mComp_setN _ (its:=(rs.map D.int).map Slot.val) ?_ (by simp) rfl (by rw [List.length_map,List.length_map]; exact Nat.lt_trans hz (by decide)) (fun s hs=>?_) (fun s hs=>?_)
    · walk_at "mj"
    · obtain ⟨d,_,rfl⟩:=List.mem_map.mp hs; rfl
    · obtain ⟨d,hd,rfl⟩:=List.mem_map.mp hs
      obtain ⟨n,hn,rfl⟩:=List.mem_map.mp hd
      have e:=block_of (c:=c) (n:=n) hc
      unfold vD
      walk_at "mj"
  unfold F_outcomes_of m_outcomes_of
  walk_at "mj"
end Sh
namespace Sh
open PySem L2 Mi
noncomputable def up (c:Int)(r:Int→Int)(g0 g1:Int→Int)(i:Int):Int→Int:=fun x=>Bd.dg c (r (Bd.num c (g0 (x - x % 2)) (g0 (x - x % 2+1)) (g1 (x - x % 2)) (g1 (x - x % 2+1)))) i (x % 2)
theorem row_two (k:Nat)(g:Int→Int):Bd.row (2*(k+1)) g=Bd.row (2*k) g++[g (2*k),g (2*k+1)]:=by
  unfold Bd.row
  rw [show 2*(k+1)=2*k+1+1 by lia,List.range_succ,List.range_succ]
  simp
theorem cut_row {w k:Nat}{g:Int→Int}(h:2*k+2≤w):cutD ((Bd.row w g).map D.int) (some (2*(k:Int))) (some (2*(k:Int)+2))=[.int (g (2*k)),.int (g (2*k+1))]:=by
  unfold cutD
  have hl:((Bd.row w g).map D.int).length=w:=by rw [List.length_map,Bd.row_len]
  rw [hl,show 2*(k:Int)=((2*k:Nat):Int) by push_cast; rfl,show ((2*k:Nat):Int)+2=((2*k+2:Nat):Int) by push_cast; rfl,HT.sIx_nat,HT.sIx_nat,Nat.min_eq_left (by lia),Nat.min_eq_left (by lia),show 2*k+2 - 2*k=2 by lia]
  apply List.ext_getElem?
  intro j
  rw [List.getElem?_take]
  match j with
  | 0=>
    rw [if_pos (by lia),List.getElem?_drop,List.getElem?_map,Bd.row_get (by lia)]
    rfl
  | 1=>
    rw [if_pos (by lia),List.getElem?_drop,List.getElem?_map,Bd.row_get (by lia)]
    rfl
  | j+2=>
    rw [if_neg (by lia)]
    rfl
theorem outs_at {c:Int}{rs:List Int}{n:Int}(h0:0≤n)(h1:n < rs.length):atI (outs c rs) n=some (bkD c (Bd.rl rs n)):=by
  obtain ⟨j,rfl⟩:=Int.eq_ofNat_of_zero_le h0
  refine atI_nat ?_
  unfold outs Bd.rl
  have hj:j < rs.length:=by lia
  rw [List.getElem?_map,List.getElem?_eq_getElem hj,show ((j:Int)).toNat=j by lia,List.getD_eq_getElem?_getD,List.getElem?_eq_getElem hj]
  rfl
theorem cut_lo (c n:Int):cutD [.int (Bd.dg c n 0 0),.int (Bd.dg c n 0 1),.int (Bd.dg c n 1 0),.int (Bd.dg c n 1 1)] none (some 2)=[.int (Bd.dg c n 0 0),.int (Bd.dg c n 0 1)]:=rfl
theorem cut_hi (c n:Int):cutD [.int (Bd.dg c n 0 0),.int (Bd.dg c n 0 1),.int (Bd.dg c n 1 0),.int (Bd.dg c n 1 1)] (some 2) none=[.int (Bd.dg c n 1 0),.int (Bd.dg c n 1 1)]:=rfl
theorem many_two (k:Nat):many3 0 (2*(k:Int)) 2=k:=by unfold many3; lia
theorem rangeD3_get {lo c:Int}{n i:Nat}{s:Slot}(h:(rangeD3 lo c n)[i]?=some s):i < n∧s=.val (.int (lo+i*c)):=by
  unfold rangeD3 at h
  rw [List.getElem?_map] at h
  cases q:(List.range n)[i]? with
  | none=>rw [q] at h; cases h
  | some j=>
    rw [q] at h
    obtain ⟨h1,h2⟩:=List.getElem?_eq_some_iff.mp q
    rw [List.getElem_range] at h2
    subst h2
    rw [List.length_range] at h1
    cases h
    exact ⟨h1,rfl⟩
theorem rangeD3_len {lo c:Int}{n:Nat}:(rangeD3 lo c n).length=n:=by unfold rangeD3; simp
theorem stepped_rows {c:Int}{rs:List Int}{k:Nat}{g0 g1:Int→Int}(hc:Bd.Col c)(hr:rs.length=Bd.nOf c)(hk:2*k < 1000)(h0:∀ x,0≤g0 x∧g0 x < c)(h1:∀ x,0≤g1 x∧g1 x < c):
    F_stepped_rows [.val (rwD (2*k) g0),.val (rwD (2*k) g1),.fz (outs c rs),.val (.int c)]=some (.own [rwD (2*k) (up c (Bd.rl rs) g0 g1 0),rwD (2*k) (up c (Bd.rl rs) g0 g1 1)]):=by
  have loop:∃ ρ',l0_stepped_rows [some (.val (rwD (2*k) g0)),some (.val (rwD (2*k) g1)),some (.fz (outs c rs)),some (.val (.int c)),some (.own []),some (.own []),none,none,none]=some (.nx ρ')∧
      ∃ a b d,ρ'=[some (.val (rwD (2*k) g0)),some (.val (rwD (2*k) g1)),some (.fz (outs c rs)),some (.val (.int c)),some (.own ((Bd.row (2*k) (up c (Bd.rl rs) g0 g1 0)).map D.int)),some (.own ((Bd.row (2*k) (up c (Bd.rl rs) g0 g1 1)).map D.int)),a,b,d]:=by
    unfold l0_stepped_rows
    have hi:mRng3 (mCons (mC (.int 0)) (mCons (mOpF gLen (mCons (mRd 0) mNil)) (mCons (mC (.int 2)) mNil))) [some (.val (rwD (2*k) g0)),some (.val (rwD (2*k) g1)),some (.fz (outs c rs)),some (.val (.int c)),some (.own []),some (.own []),none,none,none]=
        some (rangeD3 0 2 k,[some (.val (rwD (2*k) g0)),some (.val (rwD (2*k) g1)),some (.fz (outs c rs)),some (.val (.int c)),some (.own []),some (.own []),none,none,none]):=by
      have hl:((Bd.row (2*k) g0).map D.int).length=2*k:=by rw [List.length_map,Bd.row_len]
      have hm:=many_two k
      have b1:2*(k:Int) < 1152921504606846976:=by lia
      have b2:-1152921504606846976≤2*(k:Int):=by lia
      unfold rwD
      walk_at "mi"
    have lp:=forL_ex (tg:=setN 6) (body:=b0_stepped_rows) (its:=rangeD3 0 2 k)
      (fun i ρ=>∃ a b d,ρ=[some (.val (rwD (2*k) g0)),some (.val (rwD (2*k) g1)),some (.fz (outs c rs)),some (.val (.int c)),some (.own ((Bd.row (2*i) (up c (Bd.rl rs) g0 g1 0)).map D.int)),some (.own ((Bd.row (2*i) (up c (Bd.rl rs) g0 g1 1)).map D.int)),a,b,d])
      (ρ:=[some (.val (rwD (2*k) g0)),some (.val (rwD (2*k) g1)),some (.fz (outs c rs)),some (.val (.int c)),some (.own []),some (.own []),none,none,none]) 0 ⟨none,none,none,rfl⟩ (fun i s ρ hs hp=>?_)
    · obtain ⟨ρ',e,q⟩:=lp
      rw [rangeD3_len,Nat.zero_add] at q
      refine ⟨ρ',?_,q⟩
      show ((mRng3 _ _).bind _)=_
      rw [hi]
      exact e
    · obtain ⟨a,b,d,rfl⟩:=hp
      rw [Nat.zero_add]
      obtain ⟨hik,rfl⟩:=rangeD3_get hs
      have ex:(0:Int)+(i:Int)*2=2*(i:Int):=by lia
      rw [ex]
      have c0:=cut_row (w:=2*k) (k:=i) (g:=g0) (by lia)
      have c1:=cut_row (w:=2*k) (k:=i) (g:=g1) (by lia)
      have nn:=number_of (c:=c) (a:=g0 (2*i)) (b:=g0 (2*i+1)) (d:=g1 (2*i)) (e:=g1 (2*i+1)) hc
      have nb:=Bd.num_rng hc (h0 (2*i)) (h0 (2*i+1)) (h1 (2*i)) (h1 (2*i+1))
      rw [←Bd.nOf_pow hc,←hr] at nb
      have oa:=outs_at (c:=c) (rs:=rs) nb.1 nb.2
      have u0:∀ j,up c (Bd.rl rs) g0 g1 j (2*i)=Bd.dg c (Bd.rl rs (Bd.num c (g0 (2*i)) (g0 (2*i+1)) (g1 (2*i)) (g1 (2*i+1)))) j 0:=fun j=>by
        unfold up
        rw [show (2*(i:Int)) % 2=0 by lia,Int.sub_zero]
      have u1:∀ j,up c (Bd.rl rs) g0 g1 j (2*i+1)=Bd.dg c (Bd.rl rs (Bd.num c (g0 (2*i)) (g0 (2*i+1)) (g1 (2*i)) (g1 (2*i+1)))) j 1:=fun j=>by
        unfold up
        rw [show (2*(i:Int)+1) % 2=1 by lia,show 2*(i:Int)+1 - 1=2*(i:Int) by lia]
      have r0:=row_two i (up c (Bd.rl rs) g0 g1 0)
      have r1:=row_two i (up c (Bd.rl rs) g0 g1 1)
      rw [u0,u1] at r0 r1
      clear u0 u1
      generalize Bd.num c (g0 (2*i)) (g0 (2*i+1)) (g1 (2*i)) (g1 (2*i+1))=n at*
      have cl:=cut_lo c (Bd.rl rs n)
      have ch:=cut_hi c (Bd.rl rs n)
      have l0:(Bd.row (2*i) (up c (Bd.rl rs) g0 g1 0)).length=2*i:=by rw [Bd.row_len]
      have l1:(Bd.row (2*i) (up c (Bd.rl rs) g0 g1 1)).length=2*i:=by rw [Bd.row_len]
      have z:2*i+2 < 1000000:=by lia
      refine ⟨_,_,rfl,?_,some (.val (.int (2*i))),some (.val (.tup [.int (g0 (2*i)),.int (g0 (2*i+1)),.int (g1 (2*i)),.int (g1 (2*i+1))])),some (.val (bkD c (Bd.rl rs n))),rfl⟩
      rw [r0,r1]
      unfold b0_stepped_rows
      unfold rwD bkD at*
      walk_at "mi"
  obtain ⟨ρ',e,a,b,d,rfl⟩:=loop
  unfold F_stepped_rows m_stepped_rows
  unfold rwD at*
  walk_at "mi"
end Sh
namespace Sh
open PySem L2 Mi
theorem bdL_two (w k:Nat)(f:Bd.Fn):bdL w (2*(k+1)) f=bdL w (2*k) f++[rwD w (fun x=>f x (2*k)),rwD w (fun x=>f x (2*k+1))]:=by
  unfold bdL
  rw [show 2*(k+1)=2*k+1+1 by lia,List.range_succ,List.range_succ]
  simp
theorem up_stp {c:Int}{r:Int→Int}{f:Bd.Fn}{i:Int}(j:Nat)(hi:i=0∨i=1):up c r (fun x=>f x (2*j)) (fun x=>f x (2*j+1)) i=fun x=>Bd.stp c r 0 f x (2*j+i):=by
  funext x
  unfold up Bd.stp Bd.bn
  simp only [Int.sub_zero]
  rw [show (2*(j:Int)+i) % 2=i by lia,show 2*(j:Int)+i - i=2*(j:Int) by lia]
theorem stepped {c:Int}{rs:List Int}{k l:Nat}{f:Bd.Fn}{m:Int}(hc:Bd.Col c)(hr:rs.length=Bd.nOf c)(hk:0 < k)(hl:0 < l)(hz:2*k < 1000)(hz':2*l < 1000)(p:Bd.Per (2*k:Nat) (2*l:Nat) f)(hf:Bd.InR c f):
    F_stepped [.val (bdD (2*k) (2*l) f),.fz (outs c rs),.val (.int c),.val (.int m)]=some (.val (bdD (2*k) (2*l) (Bd.stp c (Bd.rl rs) m f))):=by
  have mv1:=moved (w:=2*k) (h:=2*l) (f:=f) (a:=-(m % 2)) (b:=-(m % 2)) (by lia) (by lia) hz hz' p
  have p1:=Bd.mv_per (a:=-(m % 2)) (b:=-(m % 2)) p
  have hf1:=Bd.mv_rng (a:=-(m % 2)) (b:=-(m % 2)) hf
  have p2:=Bd.stp_per (c:=c) (r:=Bd.rl rs) (s:=0) (show ((2*k:Nat):Int) % 2=0 by lia) (show ((2*l:Nat):Int) % 2=0 by lia) p1
  have mv2:=moved (w:=2*k) (h:=2*l) (f:=Bd.stp c (Bd.rl rs) 0 (Bd.mv (-(m % 2)) (-(m % 2)) f)) (a:=m % 2) (b:=m % 2) (by lia) (by lia) hz hz' p2
  have e0:Bd.mv (m % 2) (m % 2) (Bd.stp c (Bd.rl rs) 0 (Bd.mv (-(m % 2)) (-(m % 2)) f))=Bd.stp c (Bd.rl rs) m f:=by
    have:=Bd.stp_mv (c:=c) (r:=Bd.rl rs) (s:=m % 2) (a:=m % 2) (b:=m % 2) (by lia) (Bd.mv (-(m % 2)) (-(m % 2)) f)
    rw [Bd.mv_mv,show m % 2+-(m % 2)=0 by lia,Bd.mv_zero,show m % 2 - m % 2=0 by lia] at this
    rw [←this]
    exact Bd.stp_par (by lia) f
  rw [e0] at mv2
  generalize hg:Bd.mv (-(m % 2)) (-(m % 2)) f=g at*
  have loop:∃ ρ',l0_stepped [some (.val (bdD (2*k) (2*l) f)),some (.fz (outs c rs)),some (.val (.int c)),some (.val (.int m)),some (.val (.int (m % 2))),some (.val (bdD (2*k) (2*l) g)),some (.own []),none]=some (.nx ρ')∧
      ∃ a,ρ'=[some (.val (bdD (2*k) (2*l) f)),some (.fz (outs c rs)),some (.val (.int c)),some (.val (.int m)),some (.val (.int (m % 2))),some (.val (bdD (2*k) (2*l) g)),some (.own (bdL (2*k) (2*l) (Bd.stp c (Bd.rl rs) 0 g))),a]:=by
    unfold l0_stepped
    have hi:mRng3 (mCons (mC (.int 0)) (mCons (mOpF gLen (mCons (mRd 5) mNil)) (mCons (mC (.int 2)) mNil))) [some (.val (bdD (2*k) (2*l) f)),some (.fz (outs c rs)),some (.val (.int c)),some (.val (.int m)),some (.val (.int (m % 2))),some (.val (bdD (2*k) (2*l) g)),some (.own []),none]=
        some (rangeD3 0 2 l,[some (.val (bdD (2*k) (2*l) f)),some (.fz (outs c rs)),some (.val (.int c)),some (.val (.int m)),some (.val (.int (m % 2))),some (.val (bdD (2*k) (2*l) g)),some (.own []),none]):=by
      have hl:=bdL_len (2*k) (2*l) g
      have hm:=many_two l
      have b1:2*(l:Int) < 1152921504606846976:=by lia
      have b2:-1152921504606846976≤2*(l:Int):=by lia
      unfold bdD
      walk_at "mi"
    have lp:=forL_ex (tg:=setN 7) (body:=b0_stepped) (its:=rangeD3 0 2 l)
      (fun i ρ=>∃ a,ρ=[some (.val (bdD (2*k) (2*l) f)),some (.fz (outs c rs)),some (.val (.int c)),some (.val (.int m)),some (.val (.int (m % 2))),some (.val (bdD (2*k) (2*l) g)),some (.own (bdL (2*k) (2*i) (Bd.stp c (Bd.rl rs) 0 g))),a])
      (ρ:=[some (.val (bdD (2*k) (2*l) f)),some (.fz (outs c rs)),some (.val (.int c)),some (.val (.int m)),some (.val (.int (m % 2))),some (.val (bdD (2*k) (2*l) g)),some (.own []),none]) 0 ⟨none,rfl⟩ (fun i s ρ hs hp=>?_)
    · obtain ⟨ρ',e,q⟩:=lp
      rw [rangeD3_len,Nat.zero_add] at q
      refine ⟨ρ',?_,q⟩
      show ((mRng3 _ _).bind _)=_
      rw [hi]
      exact e
    · obtain ⟨a,rfl⟩:=hp
      rw [Nat.zero_add]
      obtain ⟨hil,rfl⟩:=rangeD3_get hs
      rw [show (0:Int)+(i:Int)*2=2*(i:Int) by lia]
      have a0:=atI_bd (w:=2*k) (h:=2*l) (f:=g) (k:=2*i) (by lia) (by lia)
      have a1:=atI_bd (w:=2*k) (h:=2*l) (f:=g) (k:=2*i+1) (by lia) (by lia)
      have sr:=stepped_rows (c:=c) (rs:=rs) (k:=k) (g0:=fun x=>g x (2*i)) (g1:=fun x=>g x (2*i+1)) hc hr hz (fun x=>hf1 x _) (fun x=>hf1 x _)
      rw [up_stp i (.inl rfl),up_stp i (.inr rfl),Int.add_zero] at sr
      have b2:=bdL_two (2*k) i (Bd.stp c (Bd.rl rs) 0 g)
      have l0:=bdL_len (2*k) (2*i) (Bd.stp c (Bd.rl rs) 0 g)
      have z:2*i+2 < 1000000:=by lia
      refine ⟨_,_,rfl,?_,some (.val (.int (2*i))),rfl⟩
      rw [b2]
      unfold b0_stepped
      unfold bdD at*
      walk_at "mi"
  obtain ⟨ρ',e,a,rfl⟩:=loop
  unfold F_stepped m_stepped
  unfold bdD at*
  walk_at "mi"
theorem forward {c:Int}{rs:List Int}{k l n:Nat}{f:Bd.Fn}{m:Int}(hc:Bd.Col c)(hr:rs.length=Bd.nOf c)(hk:0 < k)(hl:0 < l)(hz:2*k < 1000)(hz':2*l < 1000)(hn:n < 1000)(p:Bd.Per (2*k:Nat) (2*l:Nat) f)(hf:Bd.InR c f):
    F_forward [.val (bdD (2*k) (2*l) f),.fz (rs.map D.int),.val (.int c),.val (.int m),.val (.int n)]=some (.val (bdD (2*k) (2*l) (Bd.fwd c (Bd.rl rs) m n f))):=by
  have hrz:rs.length < 1000:=by rw [hr]; unfold Bd.nOf; split<;>lia
  have ho:=outcomes_of (c:=c) (rs:=rs) hc hrz
  have loop:∃ ρ',l0_forward [some (.val (bdD (2*k) (2*l) f)),some (.fz (rs.map D.int)),some (.val (.int c)),some (.val (.int m)),some (.val (.int n)),some (.own (outs c rs)),some (.val (bdD (2*k) (2*l) f)),none]=some (.nx ρ')∧
      ∃ a,ρ'=[some (.val (bdD (2*k) (2*l) f)),some (.fz (rs.map D.int)),some (.val (.int c)),some (.val (.int m)),some (.val (.int n)),some (.own (outs c rs)),some (.val (bdD (2*k) (2*l) (Bd.fwd c (Bd.rl rs) m n f))),a]:=by
    unfold l0_forward
    have lp:=forL_ex (tg:=setN 7) (body:=b0_forward) (its:=rangeD 0 n)
      (fun i ρ=>∃ a,ρ=[some (.val (bdD (2*k) (2*l) f)),some (.fz (rs.map D.int)),some (.val (.int c)),some (.val (.int m)),some (.val (.int n)),some (.own (outs c rs)),some (.val (bdD (2*k) (2*l) (Bd.fwd c (Bd.rl rs) m i f))),a])
      (ρ:=[some (.val (bdD (2*k) (2*l) f)),some (.fz (rs.map D.int)),some (.val (.int c)),some (.val (.int m)),some (.val (.int n)),some (.own (outs c rs)),some (.val (bdD (2*k) (2*l) f)),none]) 0 ⟨none,rfl⟩ (fun i s ρ hs hp=>?_)
    · obtain ⟨ρ',e,q⟩:=lp
      rw [rangeD_len,Nat.zero_add] at q
      refine ⟨ρ',?_,q⟩
      have h1:(n:Int) < 4611686018427387904:=by lia
      have h2:-4611686018427387904≤(n:Int):=by lia
      walk_at "mi"
    · obtain ⟨a,rfl⟩:=hp
      rw [Nat.zero_add]
      obtain ⟨hin,rfl⟩:=rangeD_get hs
      have st:=stepped (c:=c) (rs:=rs) (f:=Bd.fwd c (Bd.rl rs) m i f) (m:=m+i) hc hr hk hl hz hz' (Bd.fwd_per (by lia) (by lia) p m i) (Bd.fwd_rng hc hf m i)
      refine ⟨_,_,rfl,?_,some (.val (.int i)),rfl⟩
      unfold b0_forward
      have e1:Bd.fwd c (Bd.rl rs) m (i+1) f=Bd.stp c (Bd.rl rs) (m+i) (Bd.fwd c (Bd.rl rs) m i f):=rfl
      rw [e1]
      walk_at "mi"
  obtain ⟨ρ',e,a,rfl⟩:=loop
  unfold F_forward m_forward
  walk_at "mi"
end Sh
namespace Sh
open PySem L2 Mi
theorem enum_get {ds:List D}{i:Nat}{s:Slot}(h:(enumD ds)[i]?=some s):i < ds.length∧s=.val (.tup [.int (i:Int),ds.getD i .non]):=by
  unfold enumD at h
  rw [List.getElem?_map] at h
  cases q:(List.range ds.length)[i]? with
  | none=>rw [q] at h; cases h
  | some j=>
    rw [q] at h
    obtain ⟨h1,h2⟩:=List.getElem?_eq_some_iff.mp q
    rw [List.getElem_range] at h2
    subst h2
    rw [List.length_range] at h1
    cases h
    exact ⟨h1,rfl⟩
theorem enum_len (ds:List D):(enumD ds).length=ds.length:=by unfold enumD; simp
theorem getD_int {rs:List Int}{i:Nat}(h:i < rs.length):(rs.map D.int).getD i .non=.int (rs.getD i 0):=by
  rw [List.getD_eq_getElem?_getD,List.getElem?_map,List.getElem?_eq_getElem h,List.getD_eq_getElem?_getD,List.getElem?_eq_getElem h]
  rfl
theorem rule_back {n:Nat}{rs:List Int}(h:RuleOf n rs)(hz:n < 1000):F_rule_back [.fz (rs.map D.int)]=some (.own ((Bd.bkl rs n).map D.int)):=by
  have hl:=h.len
  have loop:∃ ρ',l0_rule_back [some (.fz (rs.map D.int)),some (.own (rs.map D.int)),none,none]=some (.nx ρ')∧∃ a b,ρ'=[some (.fz (rs.map D.int)),some (.own ((Bd.bkl rs n).map D.int)),a,b]:=by
    unfold l0_rule_back
    have lp:=forL_ex (tg:=setT 2 (gsCons (setN 2) (gsCons (setN 3) gsNil))) (body:=b0_rule_back) (its:=enumD (rs.map D.int)) (fun i ρ=>∃ a b,ρ=[some (.fz (rs.map D.int)),some (.own ((Bd.bkl rs i).map D.int)),a,b])
      (ρ:=[some (.fz (rs.map D.int)),some (.own (rs.map D.int)),none,none]) 0 ⟨none,none,rfl⟩ (fun i s ρ hs hp=>?_)
    · obtain ⟨ρ',e,q⟩:=lp
      rw [enum_len,List.length_map,hl,Nat.zero_add] at q
      refine ⟨ρ',?_,q⟩
      walk_at "mj"
    · obtain ⟨a,b,rfl⟩:=hp
      rw [Nat.zero_add]
      obtain ⟨hi,rfl⟩:=enum_get hs
      rw [List.length_map] at hi
      rw [getD_int hi]
      have bd:=h.bd (getD_mem hi)
      have ix:=ixN_int (n:=n) bd.1 bd.2
      have hb:(Bd.bkl rs i).length=n:=by rw [Bd.bkl_len,hl]
      refine ⟨_,_,rfl,?_,some (.val (.int i)),some (.val (.int (rs.getD i 0))),rfl⟩
      have e1:Bd.bkl rs (i+1)=(Bd.bkl rs i).set (rs.getD i 0).toNat i:=rfl
      rw [e1,←set_int]
      unfold b0_rule_back
      generalize rs.getD i 0=t at*
      walk_at "mj"
  obtain ⟨ρ',e,a,b,rfl⟩:=loop
  unfold F_rule_back m_rule_back
  walk_at "mj"
end Sh
namespace Sh
open PySem L2 Mi
theorem toPs_map {α:Type}(l:List α)(F:α→D):toPs (l.map F)=l.map fun a=>toP (F a):=by
  induction l with
  | nil=>rfl
  | cons a r ih=>rw [List.map_cons,List.map_cons]; show toP (F a)::toPs (r.map F)=_; rw [ih]
theorem eqvAll_map {α:Type}(l:List α)(F G:α→PyData):PyData.eqvAll (l.map F) (l.map G)=l.all fun a=>PyData.eqv (F a) (G a):=by
  induction l with
  | nil=>simp [PyData.eqvAll]
  | cons a r ih=>simp [PyData.eqvAll,ih]
theorem eqv_row (w:Nat)(g g':Int→Int):PyData.eqv (toP (rwD w g)) (toP (rwD w g'))=decide (∀ x:Nat,x < w→g x=g' x):=by
  unfold rwD
  rw [row_map,row_map]
  show PyData.eqv (.tuple (toPs _)) (.tuple (toPs _))=_
  rw [toPs_map,toPs_map,PyData.eqv,eqvAll_map]
  rw [Bool.eq_iff_iff]
  simp [toP,PyData.eqv]
theorem eqv_bd (w h:Nat)(f f':Bd.Fn):PyData.eqv (toP (bdD w h f)) (toP (bdD w h f'))=decide (∀ y:Nat,y < h→∀ x:Nat,x < w→f x y=f' x y):=by
  unfold bdD bdL
  show PyData.eqv (.tuple (toPs _)) (.tuple (toPs _))=_
  rw [toPs_map,toPs_map,PyData.eqv,eqvAll_map]
  rw [Bool.eq_iff_iff]
  simp [eqv_row]
theorem lay_map {α:Type}(l:List α)(F:α→PyData)(h:∀ a∈l,(F a).canLay0=true):PyData.canLayAll0 (l.map F)=true:=by
  induction l with
  | nil=>simp [PyData.canLayAll0]
  | cons a r ih=>simp [PyData.canLayAll0,h a (by simp),ih fun b hb=>h b (by simp [hb])]
theorem depth_map {α:Type}(l:List α)(F:α→PyData)(n:Nat)(h:∀ a∈l,(F a).depth≤n):PyData.depthAll (l.map F)≤n:=by
  induction l with
  | nil=>simp [PyData.depthAll]
  | cons a r ih=>simp only [List.map_cons,PyData.depthAll]; exact Nat.max_le.mpr ⟨h a (by simp),ih fun b hb=>h b (by simp [hb])⟩
theorem ok_ints (rs:List Int):PyData.canLayAll0 (toPs (rs.map D.int))=true∧PyData.depthAll (toPs (rs.map D.int))≤0:=by
  rw [toPs_map]
  exact ⟨lay_map _ _ fun a _=>by simp [toP,PyData.canLay0],depth_map _ _ _ fun a _=>by simp [toP,PyData.depth]⟩
theorem ok_row (w:Nat)(g:Int→Int):(toP (rwD w g)).canLay0=true∧(toP (rwD w g)).depth≤1:=by
  unfold rwD
  show PyData.canLay0 (.tuple (toPs _))=true∧PyData.depth (.tuple (toPs _))≤1
  obtain ⟨h1,h2⟩:=ok_ints (Bd.row w g)
  rw [PyData.canLay0,PyData.depth]
  exact ⟨h1,by lia⟩
theorem ok_bd (w h:Nat)(f:Bd.Fn):(toP (bdD w h f)).canLay0=true∧(toP (bdD w h f)).depth≤2:=by
  unfold bdD bdL
  show PyData.canLay0 (.tuple (toPs _))=true∧PyData.depth (.tuple (toPs _))≤2
  rw [toPs_map,PyData.canLay0,PyData.depth]
  exact ⟨lay_map _ _ fun a _=>(ok_row _ _).1,Nat.succ_le_succ (depth_map _ _ _ fun a _=>(ok_row _ _).2)⟩
theorem okP_bd (w h:Nat)(f:Bd.Fn):okP (toP (bdD w h f))=true:=by
  obtain ⟨h1,h2⟩:=ok_bd w h f
  unfold okP
  rw [h1,decide_eq_true (by lia)]
  rfl
end Sh
namespace Sh
open PySem L2 Mi
theorem whole (i:Int):F__law_whole [.val (.int i)]=some (.val (.bl true)):=by
  unfold F__law_whole m__law_whole
  walk_at "mj"
end Sh
namespace Sh
open PySem L2 Mi
noncomputable def rowsD (w h:Nat)(F:Nat→Nat→Int):List (List D):=(List.range h).map fun y=>(List.range w).map fun x=>D.int (F x y)
theorem rowsD_len (w h:Nat)(F:Nat→Nat→Int):(rowsD w h F).length=h:=by simp [rowsD]
theorem rowsD_get {w h:Nat}{F:Nat→Nat→Int}{y:Nat}(hy:y < h):(rowsD w h F)[y]?=some ((List.range w).map fun x=>D.int (F x y)):=by simp [rowsD,hy]
noncomputable def upd2 (F:Nat→Nat→Int)(x y:Nat)(v:Int):Nat→Nat→Int:=fun x' y'=>if x'=x∧y'=y then v else F x' y'
theorem rowsD_congr {w h:Nat}{F G:Nat→Nat→Int}(e:∀ x y,x < w→y < h→F x y=G x y):rowsD w h F=rowsD w h G:=by
  unfold rowsD
  apply List.map_congr_left
  intro y hy
  apply List.map_congr_left
  intro x hx
  rw [e x y (List.mem_range.mp hx) (List.mem_range.mp hy)]
theorem rowsD_set {w h:Nat}{F:Nat→Nat→Int}{x y:Nat}{v:Int}(hx:x < w)(hy:y < h):(rowsD w h F).set y (((List.range w).map fun x=>D.int (F x y)).set x (.int v))=rowsD w h (upd2 F x y v):=by
  apply List.ext_getElem?
  intro j
  by_cases e:j=y
  · subst e
    rw [List.getElem?_set_self (by rw [rowsD_len]; exact hy),rowsD_get hy]
    congr 1
    apply List.ext_getElem?
    intro i
    by_cases e2:i=x
    · subst e2
      rw [List.getElem?_set_self (by simpa using hx)]
      simp [upd2,hx]
    · rw [List.getElem?_set_ne (Ne.symm e2)]
      by_cases hi:i < w
      · simp [upd2,e2,hi]
      · rw [List.getElem?_eq_none (by simpa using hi),List.getElem?_eq_none (by simpa using hi)]
  · rw [List.getElem?_set_ne (Ne.symm e)]
    by_cases hj:j < h
    · rw [rowsD_get hj,rowsD_get hj]
      simp [upd2,e]
    · rw [List.getElem?_eq_none (by rw [rowsD_len]; lia),List.getElem?_eq_none (by rw [rowsD_len]; lia)]
noncomputable def mix (g f:Bd.Fn)(y i:Nat):Nat→Nat→Int:=fun x' y'=>if y' < y∨(y'=y∧x' < i) then g x' y' else f x' y'
theorem mix_step (g f:Bd.Fn)(y i:Nat):upd2 (mix g f y i) i y (g i y)=mix g f y (i+1):=by
  funext x' y'
  unfold upd2 mix
  by_cases h1:x'=i∧y'=y
  · rw [if_pos h1,if_pos (by lia),h1.1,h1.2]
  · rw [if_neg h1]
    by_cases h2:y' < y∨(y'=y∧x' < i)
    · rw [if_pos h2,if_pos (by lia)]
    · rw [if_neg h2,if_neg (by lia)]
theorem mix_row {w h:Nat}(g f:Bd.Fn)(y:Nat):rowsD w h (mix g f y w)=rowsD w h (mix g f (y+1) 0):=by
  apply rowsD_congr
  intro x' y' hx hy
  unfold mix
  by_cases h2:y' < y∨(y'=y∧x' < w)
  · rw [if_pos h2,if_pos (by lia)]
  · rw [if_neg h2,if_neg (by lia)]
theorem top_of {y m h:Int}(hh:0 < h)(h0:0≤y)(h1:y < h):(if (y - m) % 2=0 then y else (y - 1) % h)=(y - (y - m) % 2) % h:=by
  by_cases e:(y - m) % 2=0
  · rw [if_pos e,e,Int.sub_zero,Int.emod_eq_of_lt h0 h1]
  · rw [if_neg e,show (y - m) % 2=1 by lia]
theorem top_ne {y h:Int}(hh:1 < h)(h0:0≤y)(h1:y < h):¬ y=(y - 1) % h:=by
  by_cases e:y=0
  · subst e
    have:(0 - 1:Int) % h=h - 1:=by
      rw [show (0 - 1:Int)=(h - 1)+(-1)*h by rw [Int.neg_mul,Int.one_mul]; lia,Int.add_mul_emod_self_right]
      exact Int.emod_eq_of_lt (by lia) (by lia)
    lia
  · rw [Int.emod_eq_of_lt (by lia) (by lia)]
    lia
theorem mod_succ (t h:Int):(t % h+1) % h=(t+1) % h:=by rw [Int.emod_add_emod]
theorem made_dg {c:Int}(hc:Bd.Col c)(n:Int):n / c / c / c % c=Bd.dg c n 0 0∧n / c / c % c=Bd.dg c n 0 1∧n / c % c=Bd.dg c n 1 0∧n % c=Bd.dg c n 1 1:=by
  unfold Bd.dg
  rcases hc with rfl | rfl
  · refine ⟨?_,?_,?_,?_⟩<;>simp<;>lia
  · refine ⟨?_,?_,?_,?_⟩<;>simp<;>lia
theorem at_cell {w h:Nat}{f:Bd.Fn}(hw:0 < w)(hh:0 < h)(p:Bd.Per w h f)(x y:Int):atI (bdL w h f) (y % h)=some (.tup ((Bd.row w fun x=>f x (y % h)).map D.int))∧atI ((Bd.row w fun x=>f x (y % h)).map D.int) (x % w)=some (.int (f x y)):=by
  have hb:=mod_bd y hh
  have hb2:=mod_bd x hw
  have e2:=atI_row (w:=w) (g:=fun x=>f x (y % h)) hb2.1 hb2.2
  simp only [p.mod] at e2
  exact ⟨atI_bd hb.1 hb.2,e2⟩
noncomputable abbrev ce (w h:Nat)(f:Bd.Fn)(rs:List Int)(c m:Int)(L:List (List D))(y x:Nat)(a9 a10 a11 a12 a13 a14 a15 a16 a17 a18:Option Slot):En:=[some (.val (bdD w h f)),some (.fz (rs.map D.int)),some (.val (.int c)),some (.val (.int m)),some (.val (.int h)),some (.val (.int w)),some (.own2 L),some (.val (.int y)),some (.val (.int x)),a9,a10,a11,a12,a13,a14,a15,a16,a17,a18,none]
theorem seq_ex {a b:MS}{ρ ρ1:En}{P:En→Prop}(e:a ρ=some (.nx ρ1))(k:∃ o,b ρ1=some (.nx o)∧P o):∃ o,sSeq a b ρ=some (.nx o)∧P o:=by
  obtain ⟨o,h,p⟩:=k
  exact ⟨o,by unfold sSeq; rw [e]; exact h,p⟩
theorem step_cell {c:Int}{rs:List Int}{w h:Nat}{f:Bd.Fn}{m:Int}{F:Nat→Nat→Int}{x y:Nat}{a9 a10 a11 a12 a13 a14 a15 a16 a17 a18:Option Slot}(hc:Bd.Col c)(hr:rs.length=Bd.nOf c)(hw:1 < w)(hh:1 < h)(hz:w < 1000)(hz':h < 1000)(p:Bd.Per w h f)(hf:Bd.InR c f)(hx:x < w)(hy:y < h):
    ∃ b9 b10 b11 b12 b13 b14 b15 b16 b17 b18,b2__law_step (ce w h f rs c m (rowsD w h F) y x a9 a10 a11 a12 a13 a14 a15 a16 a17 a18)=some (.nx (ce w h f rs c m (rowsD w h (upd2 F x y (Bd.stp c (Bd.rl rs) m f x y))) y x b9 b10 b11 b12 b13 b14 b15 b16 b17 b18)):=by
  have hp:(0:Int) < h:=by lia
  have hp':(0:Int) < w:=by lia
  have hcp:0 < c:=by rcases hc with rfl | rfl<;>lia
  have hcz:c < 1073741824:=by rcases hc with rfl | rfl<;>lia
  have hcb:c < 18446744073709551616:=by lia
  have hca:-18446744073709551616 < c:=by lia
  generalize hY:(y:Int) - ((y:Int) - m) % 2=Y
  generalize hX:(x:Int) - ((x:Int) - m) % 2=X
  have t1:=top_of (y:=y) (m:=m) (h:=h) hp (by lia) (by lia)
  have t2:=top_of (y:=x) (m:=m) (h:=w) hp' (by lia) (by lia)
  rw [hY] at t1
  rw [hX] at t2
  have n1:=top_ne (y:=y) (h:=h) (by lia) (by lia) (by lia)
  have n2:=top_ne (y:=x) (h:=w) (by lia) (by lia) (by lia)
  have s1:=mod_succ Y h
  have s2:=mod_succ X w
  obtain ⟨r1,k1⟩:=at_cell (by lia) (by lia) p X Y
  obtain ⟨_,k2⟩:=at_cell (by lia) (by lia) p (X+1) Y
  obtain ⟨r2,k3⟩:=at_cell (by lia) (by lia) p X (Y+1)
  obtain ⟨_,k4⟩:=at_cell (by lia) (by lia) p (X+1) (Y+1)
  have nf:((f X Y*c+f (X+1) Y)*c+f X (Y+1))*c+f (X+1) (Y+1)=Bd.num c (f X Y) (f (X+1) Y) (f X (Y+1)) (f (X+1) (Y+1)):=rfl
  have hh0:0 < h:=by lia
  have hw0:0 < w:=by lia
  have nb:=Bd.num_rng hc (hf X Y) (hf (X+1) Y) (hf X (Y+1)) (hf (X+1) (Y+1))
  rw [←Bd.nOf_pow hc,←hr] at nb
  have ra:=atI_int (ns:=rs) nb.1 nb.2
  have st:Bd.stp c (Bd.rl rs) m f x y=Bd.dg c (Bd.rl rs (Bd.num c (f X Y) (f (X+1) Y) (f X (Y+1)) (f (X+1) (Y+1)))) (((y:Int) - m) % 2) (((x:Int) - m) % 2):=by
    unfold Bd.stp Bd.bn
    rw [hX,hY]
  rw [st]
  have mz:Bd.rl rs (Bd.num c (f X Y) (f (X+1) Y) (f X (Y+1)) (f (X+1) (Y+1)))=rs.getD (Bd.num c (f X Y) (f (X+1) Y) (f X (Y+1)) (f (X+1) (Y+1))).toNat 0:=rfl
  rw [←mz] at ra
  clear mz st nb hf p hr
  generalize Bd.num c (f X Y) (f (X+1) Y) (f X (Y+1)) (f (X+1) (Y+1))=N at*
  obtain ⟨d00,d01,d10,d11⟩:=made_dg hc (Bd.rl rs N)
  clear hc
  generalize Bd.rl rs N=G at*
  generalize f X Y=A at*
  generalize f (X+1) Y=B at*
  generalize f X (Y+1)=C at*
  generalize f (X+1) (Y+1)=E at*
  have gl:=rowsD_len w h F
  have gg:=rowsD_get (w:=w) (F:=F) hy
  have gq:∀ hb:y < (rowsD w h F).length,(rowsD w h F)[y]=(List.range w).map fun x=>D.int (F x y):=fun hb=>by
    rw [List.getElem?_eq_getElem hb] at gg
    exact Option.some.inj gg
  have ix1:=ixN_int (n:=h) (k:=y) (by lia) (by lia)
  have ix2:=ixN_int (n:=w) (k:=x) (by lia) (by lia)
  have ll:((List.range w).map fun x=>D.int (F x y)).length=w:=by simp
  have z3:rangeD 0 3=[.val (.int 0),.val (.int 1),.val (.int 2)]:=rfl
  have z2:rangeD 0 2=[.val (.int 0),.val (.int 1)]:=rfl
  have z1:rangeD 0 1=[.val (.int 0)]:=rfl
  have z0:rangeD 0 0=[]:=rfl
  suffices z:∃ o,b2__law_step (ce w h f rs c m (rowsD w h F) y x a9 a10 a11 a12 a13 a14 a15 a16 a17 a18)=some (.nx o)∧∃ b9 b10 b11 b12 b13 b14 b15 b16 b17 b18,o=ce w h f rs c m (rowsD w h (upd2 F x y (Bd.dg c G ((y - m) % 2) ((x - m) % 2)))) y x b9 b10 b11 b12 b13 b14 b15 b16 b17 b18 by
    obtain ⟨o,e,b9,b10,b11,b12,b13,b14,b15,b16,b17,b18,rfl⟩:=z
    exact ⟨b9,b10,b11,b12,b13,b14,b15,b16,b17,b18,e⟩
  rw [←rowsD_set hx hy]
  generalize rowsD w h F=RF at*
  unfold b2__law_step
  refine seq_ex (ρ1:=ce w h f rs c m RF y x (some (.val (.int (Y % h)))) a10 a11 a12 a13 a14 a15 a16 a17 a18) ?_ ?_
  · by_cases ey:((y:Int) - m) % 2=0<;>rw [←t1]<;>clear t1 t2 hX hY d00 d01 d10 d11 r1 r2 k1 k2 k3 k4 s1 s2<;>walk_at "mj"
  refine seq_ex (ρ1:=ce w h f rs c m RF y x (some (.val (.int (Y % h)))) (some (.val (.int (X % w)))) a11 a12 a13 a14 a15 a16 a17 a18) ?_ ?_
  · by_cases ex:((x:Int) - m) % 2=0<;>rw [←t2]<;>clear t1 t2 hX hY d00 d01 d10 d11 r1 r2 k1 k2 k3 k4 s1 s2<;>walk_at "mj"
  refine seq_ex (ρ1:=ce w h f rs c m RF y x (some (.val (.int (Y % h)))) (some (.val (.int (X % w)))) (some (.val (.int ((Y+1) % h)))) a12 a13 a14 a15 a16 a17 a18) ?_ ?_
  · clear t1 t2 hX hY d00 d01 d10 d11 r1 r2 k1 k2 k3 k4; walk_at "mj"
  refine seq_ex (ρ1:=ce w h f rs c m RF y x (some (.val (.int (Y % h)))) (some (.val (.int (X % w)))) (some (.val (.int ((Y+1) % h)))) (some (.val (.int ((X+1) % w)))) a13 a14 a15 a16 a17 a18) ?_ ?_
  · clear t1 t2 hX hY d00 d01 d10 d11 r1 r2 k1 k2 k3 k4; walk_at "mj"
  refine seq_ex (ρ1:=ce w h f rs c m RF y x (some (.val (.int (Y % h)))) (some (.val (.int (X % w)))) (some (.val (.int ((Y+1) % h)))) (some (.val (.int ((X+1) % w)))) (some (.own [.int A,.int B,.int C,.int E])) a14 a15 a16 a17 a18) ?_ ?_
  · unfold ce bdD; clear t1 t2 hX hY d00 d01 d10 d11; walk_at "mj"
  refine seq_ex (ρ1:=ce w h f rs c m RF y x (some (.val (.int (Y % h)))) (some (.val (.int (X % w)))) (some (.val (.int ((Y+1) % h)))) (some (.val (.int ((X+1) % w)))) (some (.own [.int A,.int B,.int C,.int E])) (some (.val (.int 0))) a15 a16 a17 a18) ?_ ?_
  · clear t1 t2 hX hY d00 d01 d10 d11 r1 r2 k1 k2 k3 k4; walk_at "mj"
  refine seq_ex (ρ1:=ce w h f rs c m RF y x (some (.val (.int (Y % h)))) (some (.val (.int (X % w)))) (some (.val (.int ((Y+1) % h)))) (some (.val (.int ((X+1) % w)))) (some (.fz [.int A,.int B,.int C,.int E])) (some (.val (.int N))) (some (.val (.int E))) a16 a17 a18) ?_ ?_
  · unfold l1__law_step b1__law_step; clear t1 t2 hX hY d00 d01 d10 d11 r1 r2 k1 k2 k3 k4; walk_at "mjf"
  refine seq_ex (ρ1:=ce w h f rs c m RF y x (some (.val (.int (Y % h)))) (some (.val (.int (X % w)))) (some (.val (.int ((Y+1) % h)))) (some (.val (.int ((X+1) % w)))) (some (.fz [.int A,.int B,.int C,.int E])) (some (.val (.int N))) (some (.val (.int E))) (some (.val (.int G))) a17 a18) ?_ ?_
  · clear t1 t2 hX hY d00 d01 d10 d11 r1 r2 k1 k2 k3 k4; walk_at "mj"
  rcases Int.emod_two_eq ((y:Int) - m) with ey | ey<;>rcases Int.emod_two_eq ((x:Int) - m) with ex | ex<;>rw [ey] at t1<;>rw [ex] at t2<;>rw [ey,ex]<;>clear r1 r2 k1 k2 k3 k4 hX hY s1 s2
  · rw [if_pos rfl] at t1
    rw [if_pos rfl] at t2
    refine seq_ex (ρ1:=ce w h f rs c m RF y x (some (.val (.int (Y % h)))) (some (.val (.int (X % w)))) (some (.val (.int ((Y+1) % h)))) (some (.val (.int ((X+1) % w)))) (some (.fz [.int A,.int B,.int C,.int E])) (some (.val (.int N))) (some (.val (.int E))) (some (.val (.int G))) (some (.val (.int 0))) a18) ?_ (seq_ex (ρ1:=ce w h f rs c m RF y x (some (.val (.int (Y % h)))) (some (.val (.int (X % w)))) (some (.val (.int ((Y+1) % h)))) (some (.val (.int ((X+1) % w)))) (some (.fz [.int A,.int B,.int C,.int E])) (some (.val (.int N))) (some (.val (.int E))) (some (.val (.int (G / c / c / c)))) (some (.val (.int 0))) (some (.val (.int 2)))) ?_ ⟨_,?_,some (.val (.int (Y % h))),some (.val (.int (X % w))),some (.val (.int ((Y+1) % h))),some (.val (.int ((X+1) % w))),some (.fz [.int A,.int B,.int C,.int E]),some (.val (.int N)),some (.val (.int E)),some (.val (.int (G / c / c / c))),some (.val (.int 0)),some (.val (.int 2)),rfl⟩)
    · rw [←t1,←t2]; clear t1 t2 d00 d01 d10 d11; walk_at "mj"
    · unfold l0__law_step b0__law_step; clear t1 t2 d00 d01 d10 d11; walk_at "mjf"
    · rw [←d00]; clear t1 t2 d00 d01 d10 d11; walk_at "mj"
  · rw [if_pos rfl] at t1
    rw [if_neg (by decide)] at t2
    refine seq_ex (ρ1:=ce w h f rs c m RF y x (some (.val (.int (Y % h)))) (some (.val (.int (X % w)))) (some (.val (.int ((Y+1) % h)))) (some (.val (.int ((X+1) % w)))) (some (.fz [.int A,.int B,.int C,.int E])) (some (.val (.int N))) (some (.val (.int E))) (some (.val (.int G))) (some (.val (.int 1))) a18) ?_ (seq_ex (ρ1:=ce w h f rs c m RF y x (some (.val (.int (Y % h)))) (some (.val (.int (X % w)))) (some (.val (.int ((Y+1) % h)))) (some (.val (.int ((X+1) % w)))) (some (.fz [.int A,.int B,.int C,.int E])) (some (.val (.int N))) (some (.val (.int E))) (some (.val (.int (G / c / c)))) (some (.val (.int 1))) (some (.val (.int 1)))) ?_ ⟨_,?_,some (.val (.int (Y % h))),some (.val (.int (X % w))),some (.val (.int ((Y+1) % h))),some (.val (.int ((X+1) % w))),some (.fz [.int A,.int B,.int C,.int E]),some (.val (.int N)),some (.val (.int E)),some (.val (.int (G / c / c))),some (.val (.int 1)),some (.val (.int 1)),rfl⟩)
    · rw [←t1,←t2]; clear t1 t2 d00 d01 d10 d11; walk_at "mj"
    · unfold l0__law_step b0__law_step; clear t1 t2 d00 d01 d10 d11; walk_at "mjf"
    · rw [←d01]; clear t1 t2 d00 d01 d10 d11; walk_at "mj"
  · rw [if_neg (by decide)] at t1
    rw [if_pos rfl] at t2
    refine seq_ex (ρ1:=ce w h f rs c m RF y x (some (.val (.int (Y % h)))) (some (.val (.int (X % w)))) (some (.val (.int ((Y+1) % h)))) (some (.val (.int ((X+1) % w)))) (some (.fz [.int A,.int B,.int C,.int E])) (some (.val (.int N))) (some (.val (.int E))) (some (.val (.int G))) (some (.val (.int 2))) a18) ?_ (seq_ex (ρ1:=ce w h f rs c m RF y x (some (.val (.int (Y % h)))) (some (.val (.int (X % w)))) (some (.val (.int ((Y+1) % h)))) (some (.val (.int ((X+1) % w)))) (some (.fz [.int A,.int B,.int C,.int E])) (some (.val (.int N))) (some (.val (.int E))) (some (.val (.int (G / c)))) (some (.val (.int 2))) (some (.val (.int 0)))) ?_ ⟨_,?_,some (.val (.int (Y % h))),some (.val (.int (X % w))),some (.val (.int ((Y+1) % h))),some (.val (.int ((X+1) % w))),some (.fz [.int A,.int B,.int C,.int E]),some (.val (.int N)),some (.val (.int E)),some (.val (.int (G / c))),some (.val (.int 2)),some (.val (.int 0)),rfl⟩)
    · rw [←t1,←t2]; clear t1 t2 d00 d01 d10 d11; walk_at "mj"
    · unfold l0__law_step b0__law_step; clear t1 t2 d00 d01 d10 d11; walk_at "mjf"
    · rw [←d10]; clear t1 t2 d00 d01 d10 d11; walk_at "mj"
  · rw [if_neg (by decide)] at t1
    rw [if_neg (by decide)] at t2
    refine seq_ex (ρ1:=ce w h f rs c m RF y x (some (.val (.int (Y % h)))) (some (.val (.int (X % w)))) (some (.val (.int ((Y+1) % h)))) (some (.val (.int ((X+1) % w)))) (some (.fz [.int A,.int B,.int C,.int E])) (some (.val (.int N))) (some (.val (.int E))) (some (.val (.int G))) (some (.val (.int 3))) a18) ?_ (seq_ex (ρ1:=ce w h f rs c m RF y x (some (.val (.int (Y % h)))) (some (.val (.int (X % w)))) (some (.val (.int ((Y+1) % h)))) (some (.val (.int ((X+1) % w)))) (some (.fz [.int A,.int B,.int C,.int E])) (some (.val (.int N))) (some (.val (.int E))) (some (.val (.int (G)))) (some (.val (.int 3))) a18) ?_ ⟨_,?_,some (.val (.int (Y % h))),some (.val (.int (X % w))),some (.val (.int ((Y+1) % h))),some (.val (.int ((X+1) % w))),some (.fz [.int A,.int B,.int C,.int E]),some (.val (.int N)),some (.val (.int E)),some (.val (.int (G))),some (.val (.int 3)),a18,rfl⟩)
    · rw [←t1,←t2]; clear t1 t2 d00 d01 d10 d11; walk_at "mj"
    · unfold l0__law_step b0__law_step; clear t1 t2 d00 d01 d10 d11; walk_at "mjf"
    · rw [←d11]; clear t1 t2 d00 d01 d10 d11; walk_at "mj"
theorem rows_of {w h:Nat}{f:Bd.Fn}:((bdL w h f).map fun d=>match d with
  | .tup ds=>ds
  | _=>[])=rowsD w h (fun x y=>f x y):=by
  unfold bdL rowsD rwD
  rw [List.map_map]
  apply List.map_congr_left
  intro y _
  show (Bd.row w fun x=>f x y).map D.int=_
  rw [row_map]
theorem step_row {c:Int}{rs:List Int}{w h:Nat}{f:Bd.Fn}{m:Int}{y:Nat}{a8 a9 a10 a11 a12 a13 a14 a15 a16 a17 a18:Option Slot}(hc:Bd.Col c)(hr:rs.length=Bd.nOf c)(hw:1 < w)(hh:1 < h)(hz:w < 1000)(hz':h < 1000)(p:Bd.Per w h f)(hf:Bd.InR c f)(hy:y < h):
    ∃ ρ',l2__law_step [some (.val (bdD w h f)),some (.fz (rs.map D.int)),some (.val (.int c)),some (.val (.int m)),some (.val (.int h)),some (.val (.int w)),some (.own2 (rowsD w h (mix (Bd.stp c (Bd.rl rs) m f) f y 0))),some (.val (.int y)),a8,a9,a10,a11,a12,a13,a14,a15,a16,a17,a18,none]=some (.nx ρ')∧
      ∃ b8 b9 b10 b11 b12 b13 b14 b15 b16 b17 b18,ρ'=[some (.val (bdD w h f)),some (.fz (rs.map D.int)),some (.val (.int c)),some (.val (.int m)),some (.val (.int h)),some (.val (.int w)),some (.own2 (rowsD w h (mix (Bd.stp c (Bd.rl rs) m f) f (y+1) 0))),some (.val (.int y)),b8,b9,b10,b11,b12,b13,b14,b15,b16,b17,b18,none]:=by
  unfold l2__law_step
  have lp:=forL_ex (tg:=setN 8) (body:=b2__law_step) (its:=rangeD 0 w)
    (fun i ρ=>∃ b8 b9 b10 b11 b12 b13 b14 b15 b16 b17 b18,ρ=[some (.val (bdD w h f)),some (.fz (rs.map D.int)),some (.val (.int c)),some (.val (.int m)),some (.val (.int h)),some (.val (.int w)),some (.own2 (rowsD w h (mix (Bd.stp c (Bd.rl rs) m f) f y i))),some (.val (.int y)),b8,b9,b10,b11,b12,b13,b14,b15,b16,b17,b18,none])
    (ρ:=[some (.val (bdD w h f)),some (.fz (rs.map D.int)),some (.val (.int c)),some (.val (.int m)),some (.val (.int h)),some (.val (.int w)),some (.own2 (rowsD w h (mix (Bd.stp c (Bd.rl rs) m f) f y 0))),some (.val (.int y)),a8,a9,a10,a11,a12,a13,a14,a15,a16,a17,a18,none]) 0 ⟨_,_,_,_,_,_,_,_,_,_,_,rfl⟩ (fun i s ρ hs hp=>?_)
  · obtain ⟨ρ',e,q⟩:=lp
    rw [rangeD_len,Nat.zero_add,mix_row] at q
    refine ⟨ρ',?_,q⟩
    have h1:(w:Int) < 4611686018427387904:=by lia
    have h2:-4611686018427387904≤(w:Int):=by lia
    walk_at "mi"
  · obtain ⟨b8,b9,b10,b11,b12,b13,b14,b15,b16,b17,b18,rfl⟩:=hp
    rw [Nat.zero_add]
    obtain ⟨hin,rfl⟩:=rangeD_get hs
    rw [Int.zero_add]
    obtain ⟨d9,d10,d11,d12,d13,d14,d15,d16,d17,d18,e⟩:=step_cell (F:=mix (Bd.stp c (Bd.rl rs) m f) f y i) (m:=m) (a9:=b9) (a10:=b10) (a11:=b11) (a12:=b12) (a13:=b13) (a14:=b14) (a15:=b15) (a16:=b16) (a17:=b17) (a18:=b18) hc hr hw hh hz hz' p hf hin hy
    rw [mix_step] at e
    exact ⟨_,_,rfl,e,_,_,_,_,_,_,_,_,_,_,_,rfl⟩
theorem compL2_setN {k:Nat}{elt:M R}(val:Slot→List D):∀ {its:List Slot} {ρ:En},k < ρ.length→(∀ s∈its,elt (ρ.set k (some s))=some (.of (.own (val s)),ρ.set k (some s)))→
    ∃ ρe,compL2 (setN k) mYes elt its ρ=some (its.map val,ρe)∧(ρe=ρ∨∃ s∈its,ρe=ρ.set k (some s)):=by
  intro its
  induction its with
  | nil=>intro ρ _ _; exact ⟨ρ,rfl,.inl rfl⟩
  | cons s r ih=>
    intro ρ hk h
    have hs:=h s (by simp)
    obtain ⟨ρe,e,q⟩:=ih (ρ:=ρ.set k (some s)) (by simpa using hk) fun t ht=>by
      rw [List.set_set]; exact h t (by simp [ht])
    refine ⟨ρe,?_,?_⟩
    · have e0:setN k s ρ=some (ρ.set k (some s)):=if_pos hk
      simp only [compL2,e0,mYes,Option.bind_some,if_true,hs]
      rw [e]
      rfl
    · rcases q with q | ⟨t,ht,q⟩
      · exact .inr ⟨s,by simp,q⟩
      · exact .inr ⟨t,by simp [ht],by rw [q,List.set_set]⟩
theorem mComp2_setN {k:Nat}{it:M (List Slot)}{elt:M R}{ρ0 ρ2:En}{its:List Slot}(val:Slot→List D)(h1:it ρ0=some (its,ρ2))(hk:k < ρ2.length)(hp:plainAt ρ2 k=true)(hz:its.length < big)(hn:∀ s∈its,notOwn s=true)
    (h:∀ s∈its,elt (ρ2.set k (some s))=some (.of (.own (val s)),ρ2.set k (some s))):mComp2 [k] (setN k) it mYes elt ρ0=some (.of (.own2 (its.map val)),ρ2):=by
  obtain ⟨ρe,e,q⟩:=compL2_setN (k:=k) (elt:=elt) val (its:=its) (ρ:=ρ2.set k none) (by simpa using hk) fun s hs=>by rw [List.set_set]; exact h s hs
  have hre:ρe.set k (ρ2[k]?).join=ρ2:=by
    have e1:(ρ2[k]?).join=ρ2[k]:=by rw [List.getElem?_eq_getElem hk]; rfl
    rw [e1]
    rcases q with q | ⟨s,_,q⟩
    · rw [q,List.set_set,List.set_getElem_self]
    · rw [q,List.set_set,List.set_set,List.set_getElem_self]
  have hno:noOwn ρe k=true:=by
    unfold noOwn
    rcases q with q | ⟨s,hs,q⟩
    · rw [q,List.getElem?_set_self (by simpa using hk)]
      rfl
    · rw [q,List.getElem?_set_self (by simpa using hk)]
      have:=hn s hs
      cases s<;>first | rfl | cases this
  unfold mComp2
  rw [h1]
  show (if its.length < big∧[k].all (plainAt ρ2)=true then (compL2 (setN k) mYes elt its (maskE [k] ρ2)).bind _ else none)=_
  rw [if_pos ⟨hz,by simp [hp]⟩]
  show ((compL2 (setN k) mYes elt its (ρ2.set k none)).bind _)=_
  rw [e]
  show (if [k].all (noOwn ρe)=true then some (R.of (.own2 (its.map val)),unmask [k] ρ2 ρe) else none)=_
  rw [if_pos (by simp [hno])]
  show some (R.of (.own2 (its.map val)),ρe.set k (ρ2[k]?).join)=_
  rw [hre]
theorem rowsD_bd {w h:Nat}{F:Nat→Nat→Int}{g:Bd.Fn}(e:∀ x y,x < w→y < h→F x y=g x y):(rowsD w h F).map D.tup=bdL w h g:=by
  rw [rowsD_congr e]
  unfold rowsD bdL rwD
  rw [List.map_map]
  apply List.map_congr_left
  intro y _
  show D.tup _=D.tup _
  rw [row_map]
theorem law_step {c:Int}{rs:List Int}{k l:Nat}{f:Bd.Fn}{m:Int}(hc:Bd.Col c)(hr:rs.length=Bd.nOf c)(hk:0 < k)(hl:0 < l)(hz:2*k < 1000)(hz':2*l < 1000)(p:Bd.Per (2*k:Nat) (2*l:Nat) f)(hf:Bd.InR c f):
    F__law_step [.val (bdD (2*k) (2*l) f),.fz (rs.map D.int),.val (.int c),.val (.int m)]=some (.val (bdD (2*k) (2*l) (Bd.stp c (Bd.rl rs) m f))):=by
  have hw:1 < 2*k:=by lia
  have hh:1 < 2*l:=by lia
  generalize 2*k=w at*
  generalize 2*l=h at*
  have g1:c1__law_step [some (.val (bdD w h f)),some (.fz (rs.map D.int)),some (.val (.int c)),some (.val (.int m)),some (.val (.int h)),some (.val (.int w)),none,none,none,none,none,none,none,none,none,none,none,none,none,none]=
      some (.of (.own2 (rowsD w h (mix (Bd.stp c (Bd.rl rs) m f) f 0 0))),[some (.val (bdD w h f)),some (.fz (rs.map D.int)),some (.val (.int c)),some (.val (.int m)),some (.val (.int h)),some (.val (.int w)),none,none,none,none,none,none,none,none,none,none,none,none,none,none]):=by
    have e0:rowsD w h (mix (Bd.stp c (Bd.rl rs) m f) f 0 0)=((bdL w h f).map Slot.val).map (fun s=>match s with
        | .val (.tup ds)=>ds
        | _=>[]):=by
      rw [rowsD_congr (G:=fun x y=>f x y) (fun x y _ _=>by unfold mix; rw [if_neg (by lia)]),←rows_of,List.map_map]
      apply List.map_congr_left
      intro d hd
      obtain ⟨y,_,rfl⟩:=List.mem_map.mp hd
      rfl
    unfold c1__law_step
    rw [e0]
    refine mComp2_setN _ (its:=(bdL w h f).map Slot.val) ?_ (by simp) rfl (by rw [List.length_map,bdL_len]; unfold big; lia) (fun s hs=>?_) (fun s hs=>?_)
    · unfold bdD
      walk_at "mi"
    · obtain ⟨d,_,rfl⟩:=List.mem_map.mp hs; rfl
    · obtain ⟨d,hd,rfl⟩:=List.mem_map.mp hs
      obtain ⟨y,_,rfl⟩:=List.mem_map.mp hd
      unfold rwD
      walk_at "mi"
  have loop:∃ ρ',l3__law_step [some (.val (bdD w h f)),some (.fz (rs.map D.int)),some (.val (.int c)),some (.val (.int m)),some (.val (.int h)),some (.val (.int w)),some (.own2 (rowsD w h (mix (Bd.stp c (Bd.rl rs) m f) f 0 0))),none,none,none,none,none,none,none,none,none,none,none,none,none]=some (.nx ρ')∧
      ∃ b7 b8 b9 b10 b11 b12 b13 b14 b15 b16 b17 b18,ρ'=[some (.val (bdD w h f)),some (.fz (rs.map D.int)),some (.val (.int c)),some (.val (.int m)),some (.val (.int h)),some (.val (.int w)),some (.own2 (rowsD w h (mix (Bd.stp c (Bd.rl rs) m f) f h 0))),b7,b8,b9,b10,b11,b12,b13,b14,b15,b16,b17,b18,none]:=by
    unfold l3__law_step b3__law_step
    have lp:=forL_ex (tg:=setN 7) (body:=l2__law_step) (its:=rangeD 0 h)
      (fun i ρ=>∃ b7 b8 b9 b10 b11 b12 b13 b14 b15 b16 b17 b18,ρ=[some (.val (bdD w h f)),some (.fz (rs.map D.int)),some (.val (.int c)),some (.val (.int m)),some (.val (.int h)),some (.val (.int w)),some (.own2 (rowsD w h (mix (Bd.stp c (Bd.rl rs) m f) f i 0))),b7,b8,b9,b10,b11,b12,b13,b14,b15,b16,b17,b18,none])
      (ρ:=[some (.val (bdD w h f)),some (.fz (rs.map D.int)),some (.val (.int c)),some (.val (.int m)),some (.val (.int h)),some (.val (.int w)),some (.own2 (rowsD w h (mix (Bd.stp c (Bd.rl rs) m f) f 0 0))),none,none,none,none,none,none,none,none,none,none,none,none,none]) 0 ⟨_,_,_,_,_,_,_,_,_,_,_,_,rfl⟩ (fun i s ρ hs hp=>?_)
    · obtain ⟨ρ',e,q⟩:=lp
      rw [rangeD_len,Nat.zero_add] at q
      refine ⟨ρ',?_,q⟩
      have h1:(h:Int) < 4611686018427387904:=by lia
      have h2:-4611686018427387904≤(h:Int):=by lia
      walk_at "mi"
    · obtain ⟨b7,b8,b9,b10,b11,b12,b13,b14,b15,b16,b17,b18,rfl⟩:=hp
      rw [Nat.zero_add]
      obtain ⟨hin,rfl⟩:=rangeD_get hs
      rw [Int.zero_add]
      obtain ⟨ρ',e,d8,d9,d10,d11,d12,d13,d14,d15,d16,d17,d18,rfl⟩:=step_row (m:=m) (y:=i) (a8:=b8) (a9:=b9) (a10:=b10) (a11:=b11) (a12:=b12) (a13:=b13) (a14:=b14) (a15:=b15) (a16:=b16) (a17:=b17) (a18:=b18) hc hr hw hh hz hz' p hf hin
      exact ⟨_,_,rfl,e,_,_,_,_,_,_,_,_,_,_,_,_,rfl⟩
  obtain ⟨ρ',e,b7,b8,b9,b10,b11,b12,b13,b14,b15,b16,b17,b18,rfl⟩:=loop
  have g0:c0__law_step [some (.val (bdD w h f)),some (.fz (rs.map D.int)),some (.val (.int c)),some (.val (.int m)),some (.val (.int h)),some (.val (.int w)),some (.own2 (rowsD w h (mix (Bd.stp c (Bd.rl rs) m f) f h 0))),b7,b8,b9,b10,b11,b12,b13,b14,b15,b16,b17,b18,none]=
      some (.of (.own (bdL w h (Bd.stp c (Bd.rl rs) m f))),[some (.val (bdD w h f)),some (.fz (rs.map D.int)),some (.val (.int c)),some (.val (.int m)),some (.val (.int h)),some (.val (.int w)),some (.fz2 (rowsD w h (mix (Bd.stp c (Bd.rl rs) m f) f h 0))),b7,b8,b9,b10,b11,b12,b13,b14,b15,b16,b17,b18,none]):=by
    unfold c0__law_step
    have e0:bdL w h (Bd.stp c (Bd.rl rs) m f)=((rowsD w h (mix (Bd.stp c (Bd.rl rs) m f) f h 0)).map Slot.fz).map (fun s=>match s with
        | .fz ds=>D.tup ds
        | _=>.non):=by
      rw [←rowsD_bd (F:=mix (Bd.stp c (Bd.rl rs) m f) f h 0) (fun x y _ hy=>by unfold mix; rw [if_pos (by lia)]),List.map_map]
      rfl
    rw [e0]
    refine mComp_setN _ (its:=(rowsD w h (mix (Bd.stp c (Bd.rl rs) m f) f h 0)).map Slot.fz) ?_ (by simp) rfl (by rw [List.length_map,rowsD_len]; unfold big; lia) (fun s hs=>?_) (fun s hs=>?_)
    · walk_at "mi"
    · obtain ⟨d,_,rfl⟩:=List.mem_map.mp hs; rfl
    · obtain ⟨d,hd,rfl⟩:=List.mem_map.mp hs
      walk_at "mi"
  have a0:=atI_bd (w:=w) (h:=h) (f:=f) (k:=0) (by lia) (by lia)
  have hl':=bdL_len w h f
  have hr':=Bd.row_len w (fun x=>f x 0)
  unfold rwD at a0
  clear hk hl hz hz' p hf hw hh hr hc
  unfold F__law_step m__law_step
  unfold bdD at*
  walk_at "mi"
end Sh
namespace Rg
open PySem L2 Mi Sh
noncomputable def dgs (c:Int):Nat→Int→List Int
  | 0,_=>[]
  | k+1,n=>n % c::dgs c k (n / c)
noncomputable def dvs (c:Int):Nat→Int→Int
  | 0,n=>n
  | k+1,n=>dvs c k (n / c)
noncomputable def rws (c:Int)(w:Nat):Nat→Int→List (List Int)
  | 0,_=>[]
  | h+1,n=>dgs c w n::rws c w h (dvs c w n)
noncomputable def lawX (c w h:Nat):List (List (List Int)):=(List.range (c ^ (w*h))).map fun (n:Nat)=>rws c w h n
noncomputable def Size (c w h:Nat):Prop:=(c=2∧w=2∧h=2)∨(c=2∧w=4∧h=2)∨(c=2∧w=2∧h=4)∨(c=3∧w=2∧h=2)
theorem law_all {c w h:Nat}(z:Size c w h):∀ b,b∈lawX c w h↔b∈allX c w h:=by
  have e:((lawX c w h).all fun b=>(allX c w h).contains b)=true∧((allX c w h).all fun b=>(lawX c w h).contains b)=true:=by
    rcases z with ⟨rfl,rfl,rfl⟩ | ⟨rfl,rfl,rfl⟩ | ⟨rfl,rfl,rfl⟩ | ⟨rfl,rfl,rfl⟩
    · decide +kernel
    · decide +kernel
    · decide +kernel
    · decide +kernel
  intro b
  rw [List.all_eq_true,List.all_eq_true] at e
  exact ⟨fun hb=>by simpa using e.1 b hb,fun hb=>by simpa using e.2 b hb⟩
theorem all_boards {c w h:Nat}(z:Size c w h):F_all_boards [.val (.int c),.val (.int w),.val (.int h)]=some (.own ((allX c w h).map bdK)):=by
  rcases z with ⟨rfl,rfl,rfl⟩ | ⟨rfl,rfl,rfl⟩ | ⟨rfl,rfl,rfl⟩ | ⟨rfl,rfl,rfl⟩
  · kernel_rfl
  · kernel_rfl
  · kernel_rfl
  · kernel_rfl
theorem turnL {c w h:Nat}(z:Size c w h){bs:List D}(hb:bs.length < 1000000)(n:Int)(m s5 s7 s8 s9 s10 s11:Option Slot):∃ t7 t8 t9 t10 t11,b2__law_boards [some (.val (.int c)),some (.val (.int w)),some (.val (.int h)),some (.own bs),m,s5,some (.val (.int n)),s7,s8,s9,s10,s11]=
    some (.nx [some (.val (.int c)),some (.val (.int w)),some (.val (.int h)),some (.own (bs++[bdK (rws c w h n)])),m,s5,some (.val (.int n)),t7,t8,t9,t10,t11]):=by
  have e:l1__law_boards [some (.val (.int c)),some (.val (.int w)),some (.val (.int h)),some (.own bs),m,s5,some (.val (.int n)),some (.own []),some (.val (.int n)),s9,s10,s11]=
      some (.nx [some (.val (.int c)),some (.val (.int w)),some (.val (.int h)),some (.own bs),m,s5,some (.val (.int n)),some (.own ((rws c w h n).map fun r=>D.tup (r.map D.int))),some (.val (.int (dvs c (w*h) n))),some (.val (.int ((h - 1:Nat):Int))),some (.own ((dgs c w (dvs c (w*(h - 1)) n)).map D.int)),some (.val (.int ((w - 1:Nat):Int)))]):=by
    rcases z with ⟨rfl,rfl,rfl⟩ | ⟨rfl,rfl,rfl⟩ | ⟨rfl,rfl,rfl⟩ | ⟨rfl,rfl,rfl⟩
    · kernel_rfl
    · kernel_rfl
    · kernel_rfl
    · kernel_rfl
  have eb:bdK (rws c w h n)=D.tup ((rws c w h n).map fun r=>D.tup (r.map D.int)):=rfl
  rw [eb]
  refine ⟨some (.own ((rws c w h n).map fun r=>D.tup (r.map D.int))),some (.val (.int (dvs c (w*h) n))),some (.val (.int ((h - 1:Nat):Int))),some (.own ((dgs c w (dvs c (w*(h - 1)) n)).map D.int)),some (.val (.int ((w - 1:Nat):Int))),?_⟩
  clear z eb
  generalize ((rws c w h n).map fun r=>D.tup (r.map D.int))=R7 at*
  generalize dvs c (w*h) n=V8 at*
  generalize ((h - 1:Nat):Int)=V9 at*
  generalize (dgs c w (dvs c (w*(h - 1)) n)).map D.int=R10 at*
  generalize ((w - 1:Nat):Int)=V11 at*
  generalize (c:Int)=cc at*
  generalize (w:Int)=ww at*
  generalize (h:Int)=hh at*
  unfold b2__law_boards
  walk_at "mi"
theorem law_boards {c w h:Nat}(z:Size c w h):F__law_boards [.val (.int c),.val (.int w),.val (.int h)]=some (.own ((lawX c w h).map bdK)):=by
  have hN:c ^ (w*h)≤256:=by
    rcases z with ⟨rfl,rfl,rfl⟩ | ⟨rfl,rfl,rfl⟩ | ⟨rfl,rfl,rfl⟩ | ⟨rfl,rfl,rfl⟩<;>decide
  have e3:l3__law_boards [some (.val (.int c)),some (.val (.int w)),some (.val (.int h)),some (.own []),some (.val (.int 1)),none,none,none,none,none,none,none]=
      some (.nx [some (.val (.int c)),some (.val (.int w)),some (.val (.int h)),some (.own []),some (.val (.int ((c ^ (w*h):Nat):Int))),some (.val (.int ((w*h - 1:Nat):Int))),none,none,none,none,none,none]):=by
    rcases z with ⟨rfl,rfl,rfl⟩ | ⟨rfl,rfl,rfl⟩ | ⟨rfl,rfl,rfl⟩ | ⟨rfl,rfl,rfl⟩
    · kernel_rfl
    · kernel_rfl
    · kernel_rfl
    · kernel_rfl
  unfold lawX
  generalize c ^ (w*h)=N at*
  generalize some (Slot.val (D.int ((w*h - 1:Nat):Int)))=s5 at*
  have lp:=forL_ex (tg:=setN 6) (body:=b2__law_boards) (its:=rangeD 0 N)
    (fun i ρ=>∃ a6 a7 a8 a9 a10 a11,ρ=[some (.val (.int c)),some (.val (.int w)),some (.val (.int h)),some (.own (((List.range i).map fun (n:Nat)=>rws c w h n).map bdK)),some (.val (.int N)),s5,a6,a7,a8,a9,a10,a11])
    (ρ:=[some (.val (.int c)),some (.val (.int w)),some (.val (.int h)),some (.own []),some (.val (.int N)),s5,none,none,none,none,none,none]) 0 ⟨none,none,none,none,none,none,rfl⟩ (fun i s ρ hs hp=>?_)
  · obtain ⟨ρ',e,a6,a7,a8,a9,a10,a11,rfl⟩:=lp
    rw [rangeD_len,Nat.zero_add] at e
    have e2:l2__law_boards [some (.val (.int c)),some (.val (.int w)),some (.val (.int h)),some (.own []),some (.val (.int N)),s5,none,none,none,none,none,none]=
        some (.nx [some (.val (.int c)),some (.val (.int w)),some (.val (.int h)),some (.own (((List.range N).map fun (n:Nat)=>rws c w h n).map bdK)),some (.val (.int N)),s5,a6,a7,a8,a9,a10,a11]):=by
      unfold l2__law_boards
      have e4:∀ k:Int,0≤k∧k≤256→mRng1 (mCons (mRd 4) mNil) [some (.val (.int c)),some (.val (.int w)),some (.val (.int h)),some (.own []),some (.val (.int k)),s5,none,none,none,none,none,none]=some (rangeD 0 k.toNat,[some (.val (.int c)),some (.val (.int w)),some (.val (.int h)),some (.own []),some (.val (.int k)),s5,none,none,none,none,none,none]):=fun k hk=>by
        show (if -(2 ^ 62)≤k∧k < 2 ^ 62 then _ else none)=_
        rw [if_pos (by lia)]
      have e4:=e4 N (by lia)
      rw [Int.toNat_natCast] at e4
      show ((mRng1 _ _).bind _)=_
      rw [e4]
      exact e
    clear e z hN
    generalize ((List.range N).map fun (n:Nat)=>rws c w h n).map bdK=bl at*
    generalize (N:Int)=NN at*
    generalize (c:Int)=cc at*
    generalize (w:Int)=ww at*
    generalize (h:Int)=hh at*
    unfold F__law_boards m__law_boards
    walk_at "mi"
  · obtain ⟨a6,a7,a8,a9,a10,a11,rfl⟩:=hp
    obtain ⟨hin,rfl⟩:=rangeD_get hs
    rw [Nat.zero_add,Int.zero_add]
    obtain ⟨t7,t8,t9,t10,t11,q⟩:=turnL z (bs:=((List.range i).map fun (n:Nat)=>rws c w h n).map bdK) (by rw [List.length_map,List.length_map,List.length_range]; lia) i (some (.val (.int N))) s5 a7 a8 a9 a10 a11
    refine ⟨_,_,rfl,q,some (.val (.int i)),t7,t8,t9,t10,t11,?_⟩
    rw [List.range_succ,List.map_append,List.map_append]
    rfl
theorem all_len {c w h:Nat}(z:Size c w h):(allX c w h).length≤256:=by
  rcases z with ⟨rfl,rfl,rfl⟩ | ⟨rfl,rfl,rfl⟩ | ⟨rfl,rfl,rfl⟩ | ⟨rfl,rfl,rfl⟩
  · decide +kernel
  · decide +kernel
  · decide +kernel
  · decide +kernel
end Rg
namespace K15
open PySem L2 Mi Sh
open PySem.Spec
noncomputable def top (i:Nat):Stmt:=PySem.Challenge.pw_blockturn_k15_whole_all_rings.main.body.getD i (.Pass ⟨0,0,0,0⟩)
noncomputable abbrev s_all_tuples:Stmt:=top 22
theorem sc_all_tuples:FnScope ["values","length","result","place","longer","start","value"] ["values","length"] (defScope s_all_tuples):=⟨rfl,rfl,rfl,by decide +kernel,rfl,by decide +kernel,by decide +kernel⟩
theorem ok_all_tuples {P:Program}{w:World}{K:PySem.W.Frag}{mg:Str→Option Value}{base:Heap}(T:Names mg K){f:Addr}{fd:FuncData}(F:Fun K "all_tuples" "all_tuples" s_all_tuples f fd)(hm:mg "all_tuples" = some (.ref f)):Cal P w K mg base 1 "all_tuples" 2 F_all_tuples:=by
  refine ⟨f,fd,_,fn_ok F sc_all_tuples fun cdv A outer s H E hr=>?_,F.binds (ps:=["values","length"]) (fun _ _ _ _ _ _=>us2 fun _ _=>rfl),F.kp,hm⟩
  have nd:=sc_all_tuples.nd
  exact (qs_cons (qs_set (i:=2) nd rfl (by first | exact Or.inl rfl | exact Or.inr rfl) (q_lst (qa_cons (q_tup qa_nil) qa_nil)))
    (qs_cons (qs_for PassesOwn.never rfl (qi_range1 rfl T.range (qa_cons (q_rd (pv 1)) qa_nil)) (qg_name (pg_name (i:=3) nd rfl (by first | exact Or.inl rfl | exact Or.inr rfl))) (qs_cons (qs_set (i:=4) nd rfl (by first | exact Or.inl rfl | exact Or.inr rfl) (q_lst qa_nil))
    (qs_cons (qs_for PassesOwn.never rfl (qi_seq (q_fr (pv 2))) (qg_name (pg_name (i:=5) nd rfl (by first | exact Or.inl rfl | exact Or.inr rfl))) (qs_one (qs_expr (q_meth PySem.F.plainAttrs_list PySem.F.slot_list_extend PySem.F.type_list_extend mt_extQ mr_extend (pv 4) (qa_cons (q_comp rfl (qi_seq (q_fr (pv 0))) ⟨compOk_of (by kernel_rfl),fun _ _ _ _ _=>(qg_name (pg_name (i:=6) nd rfl (by first | exact Or.inl rfl | exact Or.inr rfl))),fun _ _ _ _ _=>qts_nil,fun _ _ _ _ _=>(q_catA (q_rd (pv 5)) (q_tup (qa_cons (q_rd (pv 6)) qa_nil)))⟩) qa_nil)))))
    (qs_one (qs_set (i:=2) nd rfl (by first | exact Or.inl rfl | exact Or.inr rfl) (q_val (pv 4)))))))
    (qs_one (qs_ret (q_val (pv 2))))))
noncomputable abbrev s_all_boards:Stmt:=top 21
theorem sc_all_boards:FnScope ["colours","width","height","rows"] ["colours","width","height"] (defScope s_all_boards):=⟨rfl,rfl,rfl,by decide +kernel,rfl,by decide +kernel,by decide +kernel⟩
theorem ok_all_boards {P:Program}{w:World}{K:PySem.W.Frag}{mg:Str→Option Value}{base:Heap}(T:Names mg K)(C_all_tuples:Cal P w K mg base 1 "all_tuples" 2 F_all_tuples){f:Addr}{fd:FuncData}(F:Fun K "all_boards" "all_boards" s_all_boards f fd)(hm:mg "all_boards" = some (.ref f)):Cal P w K mg base 2 "all_boards" 3 F_all_boards:=by
  refine ⟨f,fd,_,fn_ok F sc_all_boards fun cdv A outer s H E hr=>?_,F.binds (ps:=["colours","width","height"]) (fun _ _ _ _ _ _=>us3 fun _ _ _=>rfl),F.kp,hm⟩
  have nd:=sc_all_boards.nd
  exact (qs_cons (qs_set (i:=3) nd rfl (by first | exact Or.inl rfl | exact Or.inr rfl) (q_callC C_all_tuples (hr.mono (by decide)) rfl (qa_cons (q_list_range rfl rfl T.list rfl T.range (qa_cons (q_rd (pv 0)) qa_nil)) (qa_cons (q_rd (pv 1)) qa_nil))))
    (qs_one (qs_ret (q_callC C_all_tuples (hr.mono (by decide)) rfl (qa_cons (q_rd (pv 3)) (qa_cons (q_rd (pv 2)) qa_nil))))))
noncomputable abbrev s_moved_row:Stmt:=top 10
theorem sc_moved_row:FnScope ["row","a","width","x"] ["row","a"] (defScope s_moved_row):=⟨rfl,rfl,rfl,by decide +kernel,rfl,by decide +kernel,by decide +kernel⟩
theorem ok_moved_row {P:Program}{w:World}{K:PySem.W.Frag}{mg:Str→Option Value}{base:Heap}(T:Names mg K){f:Addr}{fd:FuncData}(F:Fun K "moved_row" "moved_row" s_moved_row f fd)(hm:mg "moved_row" = some (.ref f)):Cal P w K mg base 1 "moved_row" 2 F_moved_row:=by
  refine ⟨f,fd,_,fn_ok F sc_moved_row fun cdv A outer s H E hr=>?_,F.binds (ps:=["row","a"]) (fun _ _ _ _ _ _=>us2 fun _ _=>rfl),F.kp,hm⟩
  have nd:=sc_moved_row.nd
  exact (qs_cons (qs_set (i:=2) nd rfl (by first | exact Or.inl rfl | exact Or.inr rfl) (q_callB call_len_seq sr_len rfl T.len PySem.boot_len (qa_cons (q_rd (pv 0)) qa_nil)))
    (qs_one (qs_ret (q_callTy call_tuple_of sr_tuple rfl T.tuple PyProof.Rows.boot_tuple (qa_cons (q_comp rfl (qi_range1 rfl T.range (qa_cons (q_rd (pv 2)) qa_nil)) ⟨compOk_of (by kernel_rfl),fun _ _ _ _ _=>(qg_name (pg_name (i:=3) nd rfl (by first | exact Or.inl rfl | exact Or.inr rfl))),fun _ _ _ _ _=>qts_nil,fun _ _ _ _ _=>(q_item (q_rd (pv 0)) (q_mod (q_sub (q_rd (pv 3)) (q_rd (pv 1))) (q_rd (pv 2))) (fun _ _=>rfl))⟩) qa_nil)))))
noncomputable abbrev s_moved:Stmt:=top 9
theorem sc_moved:FnScope ["board","a","b","height","y"] ["board","a","b"] (defScope s_moved):=⟨rfl,rfl,rfl,by decide +kernel,rfl,by decide +kernel,by decide +kernel⟩
theorem ok_moved {P:Program}{w:World}{K:PySem.W.Frag}{mg:Str→Option Value}{base:Heap}(T:Names mg K)(C_moved_row:Cal P w K mg base 1 "moved_row" 2 F_moved_row){f:Addr}{fd:FuncData}(F:Fun K "moved" "moved" s_moved f fd)(hm:mg "moved" = some (.ref f)):Cal P w K mg base 2 "moved" 3 F_moved:=by
  refine ⟨f,fd,_,fn_ok F sc_moved fun cdv A outer s H E hr=>?_,F.binds (ps:=["board","a","b"]) (fun _ _ _ _ _ _=>us3 fun _ _ _=>rfl),F.kp,hm⟩
  have nd:=sc_moved.nd
  exact (qs_cons (qs_set (i:=3) nd rfl (by first | exact Or.inl rfl | exact Or.inr rfl) (q_callB call_len_seq sr_len rfl T.len PySem.boot_len (qa_cons (q_rd (pv 0)) qa_nil)))
    (qs_one (qs_ret (q_callTy call_tuple_of sr_tuple rfl T.tuple PyProof.Rows.boot_tuple (qa_cons (q_comp rfl (qi_range1 rfl T.range (qa_cons (q_rd (pv 3)) qa_nil)) ⟨compOk_of (by kernel_rfl),fun _ _ _ _ _=>(qg_name (pg_name (i:=4) nd rfl (by first | exact Or.inl rfl | exact Or.inr rfl))),fun _ _ _ _ _=>qts_nil,fun _ _ _ _ _=>(q_callC C_moved_row (hr.mono (by decide)) rfl (qa_cons (q_item (q_rd (pv 0)) (q_mod (q_sub (q_rd (pv 4)) (q_rd (pv 2))) (q_rd (pv 3))) (fun _ _=>rfl)) (qa_cons (q_rd (pv 1)) qa_nil)))⟩) qa_nil)))))
noncomputable abbrev s_number_of:Stmt:=top 6
theorem sc_number_of:FnScope ["block","colours","number","colour"] ["block","colours"] (defScope s_number_of):=⟨rfl,rfl,rfl,by decide +kernel,rfl,by decide +kernel,by decide +kernel⟩
theorem ok_number_of {P:Program}{w:World}{K:PySem.W.Frag}{mg:Str→Option Value}{base:Heap}(T:Names mg K){f:Addr}{fd:FuncData}(F:Fun K "number_of" "number_of" s_number_of f fd)(hm:mg "number_of" = some (.ref f)):Cal P w K mg base 1 "number_of" 2 F_number_of:=by
  refine ⟨f,fd,_,fn_ok F sc_number_of fun cdv A outer s H E hr=>?_,F.binds (ps:=["block","colours"]) (fun _ _ _ _ _ _=>us2 fun _ _=>rfl),F.kp,hm⟩
  have nd:=sc_number_of.nd
  exact (qs_cons (qs_set (i:=2) nd rfl (by first | exact Or.inl rfl | exact Or.inr rfl) q_int)
    (qs_cons (qs_for PassesOwn.never rfl (qi_seq (q_fr (pv 0))) (qg_name (pg_name (i:=3) nd rfl (by first | exact Or.inl rfl | exact Or.inr rfl))) (qs_one (qs_set (i:=2) nd rfl (by first | exact Or.inl rfl | exact Or.inr rfl) (q_add (q_mul (q_rd (pv 2)) (q_rd (pv 1))) (q_rd (pv 3))))))
    (qs_one (qs_ret (q_val (pv 2))))))
noncomputable abbrev s_stepped_rows:Stmt:=top 15
theorem sc_stepped_rows:FnScope ["upper","lower","outcomes","colours","new_upper","new_lower","x","block","outcome"] ["upper","lower","outcomes","colours"] (defScope s_stepped_rows):=⟨rfl,rfl,rfl,by decide +kernel,rfl,by decide +kernel,by decide +kernel⟩
theorem ok_stepped_rows {P:Program}{w:World}{K:PySem.W.Frag}{mg:Str→Option Value}{base:Heap}(T:Names mg K)(C_number_of:Cal P w K mg base 1 "number_of" 2 F_number_of){f:Addr}{fd:FuncData}(F:Fun K "stepped_rows" "stepped_rows" s_stepped_rows f fd)(hm:mg "stepped_rows" = some (.ref f)):Cal P w K mg base 2 "stepped_rows" 4 F_stepped_rows:=by
  refine ⟨f,fd,_,fn_ok F sc_stepped_rows fun cdv A outer s H E hr=>?_,F.binds (ps:=["upper","lower","outcomes","colours"]) (fun _ _ _ _ _ _=>us4 fun _ _ _ _=>rfl),F.kp,hm⟩
  have nd:=sc_stepped_rows.nd
  exact (qs_cons (qs_set (i:=4) nd rfl (by first | exact Or.inl rfl | exact Or.inr rfl) (q_lst qa_nil))
    (qs_cons (qs_set (i:=5) nd rfl (by first | exact Or.inl rfl | exact Or.inr rfl) (q_lst qa_nil))
    (qs_cons (qs_for PassesOwn.never rfl (qi_range3 rfl T.range (qa_cons q_int (qa_cons (q_callB call_len_seq sr_len rfl T.len PySem.boot_len (qa_cons (q_rd (pv 0)) qa_nil)) (qa_cons q_int qa_nil)))) (qg_name (pg_name (i:=6) nd rfl (by first | exact Or.inl rfl | exact Or.inr rfl))) (qs_cons (qs_set (i:=7) nd rfl (by first | exact Or.inl rfl | exact Or.inr rfl) (q_cat (q_slice (q_rd (pv 0)) (qo_some (q_rd (pv 6))) (qo_some (q_add (q_rd (pv 6)) q_int))) (q_slice (q_rd (pv 1)) (qo_some (q_rd (pv 6))) (qo_some (q_add (q_rd (pv 6)) q_int)))))
    (qs_cons (qs_set (i:=8) nd rfl (by first | exact Or.inl rfl | exact Or.inr rfl) (q_item (q_rd (pv 2)) (q_callC C_number_of (hr.mono (by decide)) rfl (qa_cons (q_rd (pv 7)) (qa_cons (q_rd (pv 3)) qa_nil))) (fun _ _=>rfl)))
    (qs_cons (qs_expr (q_meth PySem.F.plainAttrs_list PySem.F.slot_list_extend PySem.F.type_list_extend mt_extQ mr_extend (pv 4) (qa_cons (q_slice (q_rd (pv 8)) qo_none (qo_some q_int)) qa_nil)))
    (qs_one (qs_expr (q_meth PySem.F.plainAttrs_list PySem.F.slot_list_extend PySem.F.type_list_extend mt_extQ mr_extend (pv 5) (qa_cons (q_slice (q_rd (pv 8)) (qo_some q_int) qo_none) qa_nil))))))))
    (qs_one (qs_ret (q_lst (qa_cons (q_callTy call_tuple_of sr_tuple rfl T.tuple PyProof.Rows.boot_tuple (qa_cons (q_rd (pv 4)) qa_nil)) (qa_cons (q_callTy call_tuple_of sr_tuple rfl T.tuple PyProof.Rows.boot_tuple (qa_cons (q_rd (pv 5)) qa_nil)) qa_nil))))))))
noncomputable abbrev s_stepped:Stmt:=top 14
theorem sc_stepped:FnScope ["board","outcomes","colours","moment","shift","start","rows","y"] ["board","outcomes","colours","moment"] (defScope s_stepped):=⟨rfl,rfl,rfl,by decide +kernel,rfl,by decide +kernel,by decide +kernel⟩
theorem ok_stepped {P:Program}{w:World}{K:PySem.W.Frag}{mg:Str→Option Value}{base:Heap}(T:Names mg K)(C_moved:Cal P w K mg base 2 "moved" 3 F_moved)(C_stepped_rows:Cal P w K mg base 2 "stepped_rows" 4 F_stepped_rows){f:Addr}{fd:FuncData}(F:Fun K "stepped" "stepped" s_stepped f fd)(hm:mg "stepped" = some (.ref f)):Cal P w K mg base 3 "stepped" 4 F_stepped:=by
  refine ⟨f,fd,_,fn_ok F sc_stepped fun cdv A outer s H E hr=>?_,F.binds (ps:=["board","outcomes","colours","moment"]) (fun _ _ _ _ _ _=>us4 fun _ _ _ _=>rfl),F.kp,hm⟩
  have nd:=sc_stepped.nd
  exact (qs_cons (qs_set (i:=4) nd rfl (by first | exact Or.inl rfl | exact Or.inr rfl) (q_mod (q_rd (pv 3)) q_int))
    (qs_cons (qs_set (i:=5) nd rfl (by first | exact Or.inl rfl | exact Or.inr rfl) (q_callC C_moved (hr.mono (by decide)) rfl (qa_cons (q_rd (pv 0)) (qa_cons (q_neg (q_rd (pv 4))) (qa_cons (q_neg (q_rd (pv 4))) qa_nil)))))
    (qs_cons (qs_set (i:=6) nd rfl (by first | exact Or.inl rfl | exact Or.inr rfl) (q_lst qa_nil))
    (qs_cons (qs_for PassesOwn.never rfl (qi_range3 rfl T.range (qa_cons q_int (qa_cons (q_callB call_len_seq sr_len rfl T.len PySem.boot_len (qa_cons (q_rd (pv 5)) qa_nil)) (qa_cons q_int qa_nil)))) (qg_name (pg_name (i:=7) nd rfl (by first | exact Or.inl rfl | exact Or.inr rfl))) (qs_one (qs_expr (q_meth PySem.F.plainAttrs_list PySem.F.slot_list_extend PySem.F.type_list_extend mt_extQ mr_extend (pv 6) (qa_cons (q_callC C_stepped_rows (hr.mono (by decide)) rfl (qa_cons (q_item (q_rd (pv 5)) (q_rd (pv 7)) (fun _ _=>rfl)) (qa_cons (q_item (q_rd (pv 5)) (q_add (q_rd (pv 7)) q_int) (fun _ _=>rfl)) (qa_cons (q_rd (pv 1)) (qa_cons (q_rd (pv 2)) qa_nil))))) qa_nil)))))
    (qs_one (qs_ret (q_callC C_moved (hr.mono (by decide)) rfl (qa_cons (q_callTy call_tuple_of sr_tuple rfl T.tuple PyProof.Rows.boot_tuple (qa_cons (q_rd (pv 6)) qa_nil)) (qa_cons (q_rd (pv 4)) (qa_cons (q_rd (pv 4)) qa_nil))))))))))
noncomputable abbrev s_block_of:Stmt:=top 5
theorem sc_block_of:FnScope ["number","colours"] ["number","colours"] (defScope s_block_of):=⟨rfl,rfl,rfl,by decide +kernel,rfl,by decide +kernel,by decide +kernel⟩
theorem ok_block_of {P:Program}{w:World}{K:PySem.W.Frag}{mg:Str→Option Value}{base:Heap}(T:Names mg K){f:Addr}{fd:FuncData}(F:Fun K "block_of" "block_of" s_block_of f fd)(hm:mg "block_of" = some (.ref f)):Cal P w K mg base 1 "block_of" 2 F_block_of:=by
  refine ⟨f,fd,_,fn_ok F sc_block_of fun cdv A outer s H E hr=>?_,F.binds (ps:=["number","colours"]) (fun _ _ _ _ _ _=>us2 fun _ _=>rfl),F.kp,hm⟩
  have nd:=sc_block_of.nd
  exact (qs_one (qs_ret (q_tup (qa_cons (q_mod (q_div (q_rd (pv 0)) (q_pow (q_rd (pv 1)) q_int)) (q_rd (pv 1))) (qa_cons (q_mod (q_div (q_rd (pv 0)) (q_pow (q_rd (pv 1)) q_int)) (q_rd (pv 1))) (qa_cons (q_mod (q_div (q_rd (pv 0)) (q_rd (pv 1))) (q_rd (pv 1))) (qa_cons (q_mod (q_rd (pv 0)) (q_rd (pv 1))) qa_nil)))))))
noncomputable abbrev s_outcomes_of:Stmt:=top 13
theorem sc_outcomes_of:FnScope ["rule","colours","led"] ["rule","colours"] (defScope s_outcomes_of):=⟨rfl,rfl,rfl,by decide +kernel,rfl,by decide +kernel,by decide +kernel⟩
theorem ok_outcomes_of {P:Program}{w:World}{K:PySem.W.Frag}{mg:Str→Option Value}{base:Heap}(T:Names mg K)(C_block_of:Cal P w K mg base 1 "block_of" 2 F_block_of){f:Addr}{fd:FuncData}(F:Fun K "outcomes_of" "outcomes_of" s_outcomes_of f fd)(hm:mg "outcomes_of" = some (.ref f)):Cal P w K mg base 2 "outcomes_of" 2 F_outcomes_of:=by
  refine ⟨f,fd,_,fn_ok F sc_outcomes_of fun cdv A outer s H E hr=>?_,F.binds (ps:=["rule","colours"]) (fun _ _ _ _ _ _=>us2 fun _ _=>rfl),F.kp,hm⟩
  have nd:=sc_outcomes_of.nd
  exact (qs_one (qs_ret (q_comp rfl (qi_seq (q_fr (pv 0))) ⟨compOk_of (by kernel_rfl),fun _ _ _ _ _=>(qg_name (pg_name (i:=2) nd rfl (by first | exact Or.inl rfl | exact Or.inr rfl))),fun _ _ _ _ _=>qts_nil,fun _ _ _ _ _=>(q_callC C_block_of (hr.mono (by decide)) rfl (qa_cons (q_rd (pv 2)) (qa_cons (q_rd (pv 1)) qa_nil)))⟩)))
noncomputable abbrev s_forward:Stmt:=top 12
theorem sc_forward:FnScope ["board","rule","colours","moment","steps","outcomes","now","passed"] ["board","rule","colours","moment","steps"] (defScope s_forward):=⟨rfl,rfl,rfl,by decide +kernel,rfl,by decide +kernel,by decide +kernel⟩
theorem ok_forward {P:Program}{w:World}{K:PySem.W.Frag}{mg:Str→Option Value}{base:Heap}(T:Names mg K)(C_stepped:Cal P w K mg base 3 "stepped" 4 F_stepped)(C_outcomes_of:Cal P w K mg base 2 "outcomes_of" 2 F_outcomes_of){f:Addr}{fd:FuncData}(F:Fun K "forward" "forward" s_forward f fd)(hm:mg "forward" = some (.ref f)):Cal P w K mg base 4 "forward" 5 F_forward:=by
  refine ⟨f,fd,_,fn_ok F sc_forward fun cdv A outer s H E hr=>?_,F.binds (ps:=["board","rule","colours","moment","steps"]) (fun _ _ _ _ _ _=>us5 fun _ _ _ _ _=>rfl),F.kp,hm⟩
  have nd:=sc_forward.nd
  exact (qs_cons (qs_set (i:=5) nd rfl (by first | exact Or.inl rfl | exact Or.inr rfl) (q_callC C_outcomes_of (hr.mono (by decide)) rfl (qa_cons (q_rd (pv 1)) (qa_cons (q_rd (pv 2)) qa_nil))))
    (qs_cons (qs_set (i:=6) nd rfl (by first | exact Or.inl rfl | exact Or.inr rfl) (q_val (pv 0)))
    (qs_cons (qs_for PassesOwn.never rfl (qi_range1 rfl T.range (qa_cons (q_rd (pv 4)) qa_nil)) (qg_name (pg_name (i:=7) nd rfl (by first | exact Or.inl rfl | exact Or.inr rfl))) (qs_one (qs_set (i:=6) nd rfl (by first | exact Or.inl rfl | exact Or.inr rfl) (q_callC C_stepped (hr.mono (by decide)) rfl (qa_cons (q_rd (pv 6)) (qa_cons (q_rd (pv 5)) (qa_cons (q_rd (pv 2)) (qa_cons (q_add (q_rd (pv 3)) (q_rd (pv 7))) qa_nil))))))))
    (qs_one (qs_ret (q_val (pv 6)))))))
noncomputable abbrev s_ring_of:Stmt:=top 20
theorem sc_ring_of:FnScope ["board","rule","colours","result","now"] ["board","rule","colours"] (defScope s_ring_of):=⟨rfl,rfl,rfl,by decide +kernel,rfl,by decide +kernel,by decide +kernel⟩
theorem ok_ring_of {P:Program}{w:World}{K:PySem.W.Frag}{mg:Str→Option Value}{base:Heap}(T:Names mg K)(C_forward:Cal P w K mg base 4 "forward" 5 F_forward){f:Addr}{fd:FuncData}(F:Fun K "ring_of" "ring_of" s_ring_of f fd)(hm:mg "ring_of" = some (.ref f)):Cal P w K mg base 5 "ring_of" 3 F_ring_of:=by
  refine ⟨f,fd,_,fn_ok F sc_ring_of fun cdv A outer s H E hr=>?_,F.binds (ps:=["board","rule","colours"]) (fun _ _ _ _ _ _=>us3 fun _ _ _=>rfl),F.kp,hm⟩
  have nd:=sc_ring_of.nd
  exact (qs_cons (qs_set (i:=3) nd rfl (by first | exact Or.inl rfl | exact Or.inr rfl) (q_lst (qa_cons (q_rd (pv 0)) qa_nil)))
    (qs_cons (qs_set (i:=4) nd rfl (by first | exact Or.inl rfl | exact Or.inr rfl) (q_callC C_forward (hr.mono (by decide)) rfl (qa_cons (q_rd (pv 0)) (qa_cons (q_rd (pv 1)) (qa_cons (q_rd (pv 2)) (qa_cons q_int (qa_cons q_int qa_nil)))))))
    (qs_cons (qs_while 300 PassesOwn.never ((qt_ne hr.units) (q_rd (pv 4)) (q_rd (pv 0))) (qs_cons (qs_expr (q_meth PySem.F.plainAttrs_list PySem.F.slot_list_append PySem.F.type_list_append mt_append mr_append (pv 3) (qa_cons (q_rd (pv 4)) qa_nil)))
    (qs_one (qs_set (i:=4) nd rfl (by first | exact Or.inl rfl | exact Or.inr rfl) (q_callC C_forward (hr.mono (by decide)) rfl (qa_cons (q_rd (pv 4)) (qa_cons (q_rd (pv 1)) (qa_cons (q_rd (pv 2)) (qa_cons q_int (qa_cons q_int qa_nil))))))))))
    (qs_one (qs_ret (q_val (pv 3)))))))
noncomputable abbrev s_refuse_too_many:Stmt:=top 19
noncomputable def xb0_refuse_too_many:MX:=(xSeq (xO (sSet 2 (mOpF gMul (mCons (mRd 2) (mCons (mRd 0) mNil)))))
    (xIf (mTru (mOpF gGt (mCons (mRd 2) (mCons (mC (.int 300)) mNil)))) (xRaise "TooMany") (xO sNil)))
noncomputable def xl0_refuse_too_many:MX:=xFor (setN 3) (mRng1 (mCons (mRd 1) mNil)) xb0_refuse_too_many
noncomputable def mX_refuse_too_many:MX:=(xSeq (xO (sSet 2 (mC (.int 1))))
    xl0_refuse_too_many)
noncomputable def FX_refuse_too_many:List Slot→Option ResX:=runX 2 4 mX_refuse_too_many
theorem sc_refuse_too_many:FnScope ["colours","cells","many","cell"] ["colours","cells"] (defScope s_refuse_too_many):=⟨rfl,rfl,rfl,by decide +kernel,rfl,by decide +kernel,by decide +kernel⟩
theorem ok_refuse_too_many {P:Program}{w:World}{K:PySem.W.Frag}{mg:Str→Option Value}{base:Heap}(T:Names mg K){x_TooMany:Addr}{t_MOST_BOARDS:Tok}(V_MOST_BOARDS:mg "MOST_BOARDS" = some (.int 300 t_MOST_BOARDS))(O_TooMany:OwnX K mg "TooMany" x_TooMany){f:Addr}{fd:FuncData}(F:Fun K "refuse_too_many" "refuse_too_many" s_refuse_too_many f fd)(hm:mg "refuse_too_many" = some (.ref f)):CalX P w K mg base 1 "refuse_too_many" 2 FX_refuse_too_many:=by
  refine ⟨f,fd,_,fn_okY F sc_refuse_too_many fun cdv A outer s H E W hr hR hpo hL=>?_,F.binds (ps:=["colours","cells"]) (fun _ _ _ _ _ _=>us2 fun _ _=>rfl),F.kp,hm⟩
  have nd:=sc_refuse_too_many.nd
  exact (qxs_cons (qx_lift (qs_set (i:=2) nd rfl (by first | exact Or.inl rfl | exact Or.inr rfl) q_int))
    (qxs_one (qx_for hpo rfl (qi_range1 rfl T.range (qa_cons (q_rd (pv 1)) qa_nil)) (qg_name (pg_name (i:=3) nd rfl (by first | exact Or.inl rfl | exact Or.inr rfl))) (qxs_cons (qx_lift (qs_set (i:=2) nd rfl (by first | exact Or.inl rfl | exact Or.inr rfl) (q_mul (q_rd (pv 2)) (q_rd (pv 0)))))
    (qxs_one (qx_if (qt_gt (q_rd (pv 2)) (q_cst rfl V_MOST_BOARDS)) (qxs_one (qx_raise hR rfl O_TooMany rfl)) (qxs_lift qs_nil)))))))
noncomputable abbrev s_rings:Stmt:=top 18
noncomputable def xb0_rings:MS:=(sAsg (setB 4 (mRd 8)) (mC (.bl true)))
noncomputable def xl0_rings:MS:=sFor (setN 8) (mItS (mFr 7)) xb0_rings
noncomputable def xb1_rings:MS:=(sIf (mNotB (mRd 6) 4) (sSeq (sSet 7 (mOpF (ofLen 3 F_ring_of) (mCons (mRd 6) (mCons (mRd 0) (mCons (mRd 1) mNil)))))
    (sSeq xl0_rings
    (sAsg (setNN 5 (mOpF gLen (mCons (mRd 7) mNil))) (mOpF gAdd (mCons (mGetN 5 (mCons (mOpF gLen (mCons (mRd 7) mNil)) (mCons (mC (.int 0)) mNil))) (mCons (mC (.int 1)) mNil)))))) sNil)
noncomputable def xl1_rings:MS:=sFor (setN 6) (mItS (mOpF (ofLen 3 F_all_boards) (mCons (mRd 1) (mCons (mRd 2) (mCons (mRd 3) mNil))))) xb1_rings
noncomputable def mX_rings:MX:=(xSeq (xExpr (mCallX 2 FX_refuse_too_many (mCons (mRd 1) (mCons (mOpF gMul (mCons (mRd 2) (mCons (mRd 3) mNil))) mNil))))
    (xSeq (xO (sSet 4 (mDct (.bd []))))
    (xSeq (xO (sSet 5 (mDct (.nn []))))
    (xSeq (xO xl1_rings)
    (xO (sRet (mItems 5)))))))
noncomputable def FX_rings:List Slot→Option ResX:=runX 4 9 mX_rings
theorem sc_rings:FnScope ["rule","colours","width","height","met","counts","board","ring","member"] ["rule","colours","width","height"] (defScope s_rings):=⟨rfl,rfl,rfl,by decide +kernel,rfl,by decide +kernel,by decide +kernel⟩
theorem ok_rings {P:Program}{w:World}{K:PySem.W.Frag}{mg:Str→Option Value}{base:Heap}(T:Names mg K)(C_all_boards:Cal P w K mg base 2 "all_boards" 3 F_all_boards)(C_ring_of:Cal P w K mg base 5 "ring_of" 3 F_ring_of)(C_refuse_too_many:CalX P w K mg base 1 "refuse_too_many" 2 FX_refuse_too_many){f:Addr}{fd:FuncData}(F:Fun K "rings" "rings" s_rings f fd)(hm:mg "rings" = some (.ref f)):CalX P w K mg base 6 "rings" 4 FX_rings:=by
  refine ⟨f,fd,_,fn_okY F sc_rings fun cdv A outer s H E W hr hR hpo hL=>?_,F.binds (ps:=["rule","colours","width","height"]) (fun _ _ _ _ _ _=>us4 fun _ _ _ _=>rfl),F.kp,hm⟩
  have nd:=sc_rings.nd
  exact (qxs_cons (qx_exprE (qe_callX hL.s C_refuse_too_many (hr.mono (by decide)) rfl (qa_cons (q_rd (pv 1)) (qa_cons (q_mul (q_rd (pv 2)) (q_rd (pv 3))) qa_nil))))
    (qxs_cons (qx_lift (qs_set (i:=4) nd rfl (by first | exact Or.inl rfl | exact Or.inr rfl) q_dctB))
    (qxs_cons (qx_lift (qs_set (i:=5) nd rfl (by first | exact Or.inl rfl | exact Or.inr rfl) q_dctN))
    (qxs_cons (qx_lift (qs_for hpo rfl (qi_seq (q_callC C_all_boards (hr.mono (by decide)) rfl (qa_cons (q_rd (pv 1)) (qa_cons (q_rd (pv 2)) (qa_cons (q_rd (pv 3)) qa_nil))))) (qg_name (pg_name (i:=6) nd rfl (by first | exact Or.inl rfl | exact Or.inr rfl))) (qs_one (qs_if (qt_notB hr.units (q_rd (pv 6)) (pv 4)) (qs_cons (qs_set (i:=7) nd rfl (by first | exact Or.inl rfl | exact Or.inr rfl) (q_callC C_ring_of (hr.mono (by decide)) rfl (qa_cons (q_rd (pv 6)) (qa_cons (q_rd (pv 0)) (qa_cons (q_rd (pv 1)) qa_nil)))))
    (qs_cons (qs_for hpo rfl (qi_seq (q_fr (pv 7))) (qg_name (pg_name (i:=8) nd rfl (by first | exact Or.inl rfl | exact Or.inr rfl))) (qs_one (qs_asg q_bl (qg_setB hr.units (pv 4) (q_rd (pv 8))))))
    (qs_one (qs_asg (q_add (q_getN (pv 5) (qa_cons (q_callB call_len_seq sr_len rfl T.len PySem.boot_len (qa_cons (q_rd (pv 7)) qa_nil)) (qa_cons q_int qa_nil))) q_int) (qg_setNN (pv 5) (q_callB call_len_seq sr_len rfl T.len PySem.boot_len (qa_cons (q_rd (pv 7)) qa_nil))))))) qs_nil))))
    (qxs_one (qx_lift (qs_ret (q_items rfl rfl T.sorted (pv 5)))))))))
noncomputable abbrev s__law_refused:Stmt:=top 31
noncomputable def m__law_refused:MS:=(sSeq (sSet 4 (mOpF gLst' mNil))
    (sSeq (sTryA none 4 FX_rings (mCons (mRd 0) (mCons (mRd 1) (mCons (mRd 2) (mCons (mRd 3) mNil)))) 5 4 (tbC "TooMany" [true,false,true] tb0))
    (sRet (mOpF (gEq false) (mCons (mRd 4) (mCons (mOpF gLst' (mCons (mC (.bl true)) (mCons (mC (.bl false)) (mCons (mC (.bl true)) mNil)))) mNil))))))
noncomputable def F__law_refused:List Slot→Option Slot:=runF 4 6 m__law_refused
theorem sc__law_refused:FnScope ["rule","colours","width","height","marks","e"] ["rule","colours","width","height"] (defScope s__law_refused):=⟨rfl,rfl,rfl,by decide +kernel,rfl,by decide +kernel,by decide +kernel⟩
theorem ok__law_refused {P:Program}{w:World}{K:PySem.W.Frag}{mg:Str→Option Value}{base:Heap}(T:Names mg K){x_TooMany x_BlockError x_TooLong:Addr}(O_TooMany:OwnX K mg "TooMany" x_TooMany)(B_BlockError:mg "BlockError" = some (.ref x_BlockError))(B_TooLong:mg "TooLong" = some (.ref x_TooLong))(B_TooMany:mg "TooMany" = some (.ref x_TooMany))(e_TooMany_BlockError:PySem.W.exmOne K (.ref x_TooMany) (.ref x_BlockError)=some true)(K_TooMany:ExcKit K x_TooMany)(V_ValueError:mg "ValueError" = none)(i_TooMany_ValueError:PySem.W.kitOne K (.ref x_TooMany) (.type "ValueError")=some true)(i_TooMany_TooLong:PySem.W.kitOne K (.ref x_TooMany) (.ref x_TooLong)=some false)(i_TooMany_TooMany:PySem.W.kitOne K (.ref x_TooMany) (.ref x_TooMany)=some true)(C_rings:CalX P w K mg base 6 "rings" 4 FX_rings){f:Addr}{fd:FuncData}(F:Fun K "_law_refused" "_law_refused" s__law_refused f fd)(hm:mg "_law_refused" = some (.ref f)):Cal P w K mg base 7 "_law_refused" 4 F__law_refused:=by
  refine ⟨f,fd,_,fn_ok F sc__law_refused fun cdv A outer s H E hr=>?_,F.binds (ps:=["rule","colours","width","height"]) (fun _ _ _ _ _ _=>us4 fun _ _ _ _=>rfl),F.kp,hm⟩
  have nd:=sc__law_refused.nd
  exact (qs_cons (qs_set (i:=4) nd rfl (by first | exact Or.inl rfl | exact Or.inr rfl) (q_lst qa_nil))
    (qs_cons (qs_tryE (ie:=5) (im:=4) C_rings (hr.mono (by decide)) rfl (qa_cons (q_rd (pv 0)) (qa_cons (q_rd (pv 1)) (qa_cons (q_rd (pv 2)) (qa_cons (q_rd (pv 3)) qa_nil)))) nd (fun _ _ z=>z) rfl rfl rfl B_BlockError rfl rfl rfl rfl (tb_cons O_TooMany.bound e_TooMany_BlockError (isxs_cons (isx_own K_TooMany rfl T.isinstance rfl rfl rfl B_TooMany i_TooMany_TooMany) (isxs_cons (isx_own K_TooMany rfl T.isinstance rfl rfl rfl B_TooLong i_TooMany_TooLong) (isxs_cons (isx_blt K_TooMany rfl T.isinstance rfl rfl rfl V_ValueError boot_ValueError i_TooMany_ValueError) isxs_nil))) (by decide) tb_nil))
    (qs_one (qs_ret ((q_eq hr.units) (q_rd (pv 4)) (q_lst (qa_cons q_bl (qa_cons q_bl (qa_cons q_bl qa_nil)))))))))
noncomputable abbrev s__law_cell_at:Stmt:=top 24
theorem sc__law_cell_at:FnScope ["script","k"] ["script","k"] (defScope s__law_cell_at):=⟨rfl,rfl,rfl,by decide +kernel,rfl,by decide +kernel,by decide +kernel⟩
theorem ok__law_cell_at {P:Program}{w:World}{K:PySem.W.Frag}{mg:Str→Option Value}{base:Heap}(T:Names mg K){f:Addr}{fd:FuncData}(F:Fun K "_law_cell_at" "_law_cell_at" s__law_cell_at f fd)(hm:mg "_law_cell_at" = some (.ref f)):Cal P w K mg base 1 "_law_cell_at" 2 F__law_cell_at:=by
  refine ⟨f,fd,_,fn_ok F sc__law_cell_at fun cdv A outer s H E hr=>?_,F.binds (ps:=["script","k"]) (fun _ _ _ _ _ _=>us2 fun _ _=>rfl),F.kp,hm⟩
  have nd:=sc__law_cell_at.nd
  exact (qs_cons (qs_if (qt_lt (q_rd (pv 1)) (q_callB call_len_seq sr_len rfl T.len PySem.boot_len (qa_cons (q_rd (pv 0)) qa_nil))) (qs_one (qs_ret (q_item (q_rd (pv 0)) (q_rd (pv 1)) (fun _ _=>rfl)))) qs_nil)
    (qs_one (qs_ret q_int)))
noncomputable abbrev s_rule_back:Stmt:=top 7
theorem sc_rule_back:FnScope ["rule","result","number","led"] ["rule"] (defScope s_rule_back):=⟨rfl,rfl,rfl,by decide +kernel,rfl,by decide +kernel,by decide +kernel⟩
theorem ok_rule_back {P:Program}{w:World}{K:PySem.W.Frag}{mg:Str→Option Value}{base:Heap}(T:Names mg K){f:Addr}{fd:FuncData}(F:Fun K "rule_back" "rule_back" s_rule_back f fd)(hm:mg "rule_back" = some (.ref f)):Cal P w K mg base 1 "rule_back" 1 F_rule_back:=by
  refine ⟨f,fd,_,fn_ok F sc_rule_back fun cdv A outer s H E hr=>?_,F.binds (ps:=["rule"]) (fun _ _ _ _ _ _=>us1 fun _=>rfl),F.kp,hm⟩
  have nd:=sc_rule_back.nd
  exact (qs_cons (qs_set (i:=1) nd rfl (by first | exact Or.inl rfl | exact Or.inr rfl) (q_callTy call_list_of sr_list rfl T.list PyProof.Rows.boot_list (qa_cons (q_rd (pv 0)) qa_nil)))
    (qs_cons (qs_for PassesOwn.never rfl (qi_enum rfl T.enumerate (qa_cons (q_fr (pv 0)) qa_nil)) (qg_tup rfl (qgs_cons (qg_name (pg_name (i:=2) nd rfl (by first | exact Or.inl rfl | exact Or.inr rfl))) (qgs_cons (qg_name (pg_name (i:=3) nd rfl (by first | exact Or.inl rfl | exact Or.inr rfl))) qgs_nil))) (qs_one (qs_asg (q_rd (pv 2)) (qg_ix (pv 1) (q_rd (pv 3))))))
    (qs_one (qs_ret (q_val (pv 1))))))
noncomputable abbrev s__law_whole:Stmt:=top 25
theorem sc__law_whole:FnScope ["found"] ["found"] (defScope s__law_whole):=⟨rfl,rfl,rfl,by decide +kernel,rfl,by decide +kernel,by decide +kernel⟩
theorem ok__law_whole {P:Program}{w:World}{K:PySem.W.Frag}{mg:Str→Option Value}{base:Heap}(T:Names mg K){f:Addr}{fd:FuncData}(F:Fun K "_law_whole" "_law_whole" s__law_whole f fd)(hm:mg "_law_whole" = some (.ref f)):Cal P w K mg base 1 "_law_whole" 1 F__law_whole:=by
  refine ⟨f,fd,_,fn_ok F sc__law_whole fun cdv A outer s H E hr=>?_,F.binds (ps:=["found"]) (fun _ _ _ _ _ _=>us1 fun _=>rfl),F.kp,hm⟩
  have nd:=sc__law_whole.nd
  exact (qs_one (qs_ret (QB.q (qb_and (qb_val (q_isi (x := "isinstance") T.kInt rfl T.isinstance rfl T.int PyProof.Rows.boot_int (q_rd (pv 0)))) (qb_one (qb_not (qb_val (q_isi (x := "isinstance") T.kBool rfl T.isinstance rfl T.bool PyProof.Rows.boot_bool (q_rd (pv 0))))))))))
noncomputable abbrev s__law_boards:Stmt:=top 29
theorem sc__law_boards:FnScope ["colours","width","height","boards","many","k","number","rows","rest","y","row","x"] ["colours","width","height"] (defScope s__law_boards):=⟨rfl,rfl,rfl,by decide +kernel,rfl,by decide +kernel,by decide +kernel⟩
theorem ok__law_boards {P:Program}{w:World}{K:PySem.W.Frag}{mg:Str→Option Value}{base:Heap}(T:Names mg K){f:Addr}{fd:FuncData}(F:Fun K "_law_boards" "_law_boards" s__law_boards f fd)(hm:mg "_law_boards" = some (.ref f)):Cal P w K mg base 1 "_law_boards" 3 F__law_boards:=by
  refine ⟨f,fd,_,fn_ok F sc__law_boards fun cdv A outer s H E hr=>?_,F.binds (ps:=["colours","width","height"]) (fun _ _ _ _ _ _=>us3 fun _ _ _=>rfl),F.kp,hm⟩
  have nd:=sc__law_boards.nd
  exact (qs_cons (qs_set (i:=3) nd rfl (by first | exact Or.inl rfl | exact Or.inr rfl) (q_lst qa_nil))
    (qs_cons (qs_set (i:=4) nd rfl (by first | exact Or.inl rfl | exact Or.inr rfl) q_int)
    (qs_cons (qs_for PassesOwn.never rfl (qi_range1 rfl T.range (qa_cons (q_mul (q_rd (pv 1)) (q_rd (pv 2))) qa_nil)) (qg_name (pg_name (i:=5) nd rfl (by first | exact Or.inl rfl | exact Or.inr rfl))) (qs_one (qs_set (i:=4) nd rfl (by first | exact Or.inl rfl | exact Or.inr rfl) (q_mul (q_rd (pv 4)) (q_rd (pv 0))))))
    (qs_cons (qs_for PassesOwn.never rfl (qi_range1 rfl T.range (qa_cons (q_rd (pv 4)) qa_nil)) (qg_name (pg_name (i:=6) nd rfl (by first | exact Or.inl rfl | exact Or.inr rfl))) (qs_cons (qs_set (i:=7) nd rfl (by first | exact Or.inl rfl | exact Or.inr rfl) (q_lst qa_nil))
    (qs_cons (qs_set (i:=8) nd rfl (by first | exact Or.inl rfl | exact Or.inr rfl) (q_val (pv 6)))
    (qs_cons (qs_for PassesOwn.never rfl (qi_range1 rfl T.range (qa_cons (q_rd (pv 2)) qa_nil)) (qg_name (pg_name (i:=9) nd rfl (by first | exact Or.inl rfl | exact Or.inr rfl))) (qs_cons (qs_set (i:=10) nd rfl (by first | exact Or.inl rfl | exact Or.inr rfl) (q_lst qa_nil))
    (qs_cons (qs_for PassesOwn.never rfl (qi_range1 rfl T.range (qa_cons (q_rd (pv 1)) qa_nil)) (qg_name (pg_name (i:=11) nd rfl (by first | exact Or.inl rfl | exact Or.inr rfl))) (qs_cons (qs_expr (q_meth PySem.F.plainAttrs_list PySem.F.slot_list_append PySem.F.type_list_append mt_append mr_append (pv 10) (qa_cons (q_mod (q_rd (pv 8)) (q_rd (pv 0))) qa_nil)))
    (qs_one (qs_set (i:=8) nd rfl (by first | exact Or.inl rfl | exact Or.inr rfl) (q_div (q_rd (pv 8)) (q_rd (pv 0)))))))
    (qs_one (qs_expr (q_meth PySem.F.plainAttrs_list PySem.F.slot_list_append PySem.F.type_list_append mt_append mr_append (pv 7) (qa_cons (q_callTy call_tuple_of sr_tuple rfl T.tuple PyProof.Rows.boot_tuple (qa_cons (q_rd (pv 10)) qa_nil)) qa_nil)))))))
    (qs_one (qs_expr (q_meth PySem.F.plainAttrs_list PySem.F.slot_list_append PySem.F.type_list_append mt_append mr_append (pv 3) (qa_cons (q_callTy call_tuple_of sr_tuple rfl T.tuple PyProof.Rows.boot_tuple (qa_cons (q_rd (pv 7)) qa_nil)) qa_nil))))))))
    (qs_one (qs_ret (q_val (pv 3))))))))
noncomputable abbrev s__law_step:Stmt:=top 28
theorem sc__law_step:FnScope ["board","rule","colours","moment","height","width","rows","y","x","top","left","low","right","cells","number","colour","made","at","k","row"] ["board","rule","colours","moment"] (defScope s__law_step):=⟨rfl,rfl,rfl,by decide +kernel,rfl,by decide +kernel,by decide +kernel⟩
theorem ok__law_step {P:Program}{w:World}{K:PySem.W.Frag}{mg:Str→Option Value}{base:Heap}(T:Names mg K){f:Addr}{fd:FuncData}(F:Fun K "_law_step" "_law_step" s__law_step f fd)(hm:mg "_law_step" = some (.ref f)):Cal P w K mg base 1 "_law_step" 4 F__law_step:=by
  refine ⟨f,fd,_,fn_ok F sc__law_step fun cdv A outer s H E hr=>?_,F.binds (ps:=["board","rule","colours","moment"]) (fun _ _ _ _ _ _=>us4 fun _ _ _ _=>rfl),F.kp,hm⟩
  have nd:=sc__law_step.nd
  exact (qs_cons (qs_set (i:=4) nd rfl (by first | exact Or.inl rfl | exact Or.inr rfl) (q_callB call_len_seq sr_len rfl T.len PySem.boot_len (qa_cons (q_rd (pv 0)) qa_nil)))
    (qs_cons (qs_set (i:=5) nd rfl (by first | exact Or.inl rfl | exact Or.inr rfl) (q_callB call_len_seq sr_len rfl T.len PySem.boot_len (qa_cons (q_item (q_rd (pv 0)) q_int (fun _ _=>rfl)) qa_nil)))
    (qs_cons (qs_setC2 (i:=6) rfl nd rfl rfl (qi_seq (q_fr (pv 0))) ⟨compOk_of (by kernel_rfl),fun _ _ _ _ _=>(qg_name (pg_name (i:=19) nd rfl (by first | exact Or.inl rfl | exact Or.inr rfl))),fun _ _ _ _ _=>qts_nil,fun _ _ _ _ _=>(q_callTy call_list_of sr_list rfl T.list PyProof.Rows.boot_list (qa_cons (q_rd (pv 19)) qa_nil))⟩)
    (qs_cons (qs_for PassesOwn.never rfl (qi_range1 rfl T.range (qa_cons (q_rd (pv 4)) qa_nil)) (qg_name (pg_name (i:=7) nd rfl (by first | exact Or.inl rfl | exact Or.inr rfl))) (qs_one (qs_for PassesOwn.never rfl (qi_range1 rfl T.range (qa_cons (q_rd (pv 5)) qa_nil)) (qg_name (pg_name (i:=8) nd rfl (by first | exact Or.inl rfl | exact Or.inr rfl))) (qs_cons (qs_set (i:=9) nd rfl (by first | exact Or.inl rfl | exact Or.inr rfl) (q_if ((qt_eq hr.units) (q_mod (q_sub (q_rd (pv 7)) (q_rd (pv 3))) q_int) q_int) (q_val (pv 7)) (q_mod (q_sub (q_rd (pv 7)) q_int) (q_rd (pv 4)))))
    (qs_cons (qs_set (i:=10) nd rfl (by first | exact Or.inl rfl | exact Or.inr rfl) (q_if ((qt_eq hr.units) (q_mod (q_sub (q_rd (pv 8)) (q_rd (pv 3))) q_int) q_int) (q_val (pv 8)) (q_mod (q_sub (q_rd (pv 8)) q_int) (q_rd (pv 5)))))
    (qs_cons (qs_set (i:=11) nd rfl (by first | exact Or.inl rfl | exact Or.inr rfl) (q_mod (q_add (q_rd (pv 9)) q_int) (q_rd (pv 4))))
    (qs_cons (qs_set (i:=12) nd rfl (by first | exact Or.inl rfl | exact Or.inr rfl) (q_mod (q_add (q_rd (pv 10)) q_int) (q_rd (pv 5))))
    (qs_cons (qs_set (i:=13) nd rfl (by first | exact Or.inl rfl | exact Or.inr rfl) (q_lst (qa_cons (q_item (q_item (q_rd (pv 0)) (q_rd (pv 9)) (fun _ _=>rfl)) (q_rd (pv 10)) (fun _ _=>rfl)) (qa_cons (q_item (q_item (q_rd (pv 0)) (q_rd (pv 9)) (fun _ _=>rfl)) (q_rd (pv 12)) (fun _ _=>rfl)) (qa_cons (q_item (q_item (q_rd (pv 0)) (q_rd (pv 11)) (fun _ _=>rfl)) (q_rd (pv 10)) (fun _ _=>rfl)) (qa_cons (q_item (q_item (q_rd (pv 0)) (q_rd (pv 11)) (fun _ _=>rfl)) (q_rd (pv 12)) (fun _ _=>rfl)) qa_nil))))))
    (qs_cons (qs_set (i:=14) nd rfl (by first | exact Or.inl rfl | exact Or.inr rfl) q_int)
    (qs_cons (qs_for PassesOwn.never rfl (qi_seq (q_fr (pv 13))) (qg_name (pg_name (i:=15) nd rfl (by first | exact Or.inl rfl | exact Or.inr rfl))) (qs_one (qs_set (i:=14) nd rfl (by first | exact Or.inl rfl | exact Or.inr rfl) (q_add (q_mul (q_rd (pv 14)) (q_rd (pv 2))) (q_rd (pv 15))))))
    (qs_cons (qs_set (i:=16) nd rfl (by first | exact Or.inl rfl | exact Or.inr rfl) (q_item (q_rd (pv 1)) (q_rd (pv 14)) (fun _ _=>rfl)))
    (qs_cons (qs_set (i:=17) nd rfl (by first | exact Or.inl rfl | exact Or.inr rfl) (q_add (q_mul q_int (q_callTy call_int1 sr_int rfl T.int PyProof.Rows.boot_int (qa_cons ((q_ne hr.units) (q_rd (pv 7)) (q_rd (pv 9))) qa_nil))) (q_callTy call_int1 sr_int rfl T.int PyProof.Rows.boot_int (qa_cons ((q_ne hr.units) (q_rd (pv 8)) (q_rd (pv 10))) qa_nil))))
    (qs_cons (qs_for PassesOwn.never rfl (qi_range1 rfl T.range (qa_cons (q_sub q_int (q_rd (pv 17))) qa_nil)) (qg_name (pg_name (i:=18) nd rfl (by first | exact Or.inl rfl | exact Or.inr rfl))) (qs_one (qs_set (i:=16) nd rfl (by first | exact Or.inl rfl | exact Or.inr rfl) (q_div (q_rd (pv 16)) (q_rd (pv 2))))))
    (qs_one (qs_asg (q_mod (q_rd (pv 16)) (q_rd (pv 2))) (qg_ix2 (pv 6) (q0_var (pv 7)) (q0_var (pv 8)) (fun _ _=>rfl)))))))))))))))))
    (qs_one (qs_ret (q_callTy call_tuple_of sr_tuple rfl T.tuple PyProof.Rows.boot_tuple (qa_cons (q_comp rfl (qi_seq (q_fr (pv 6))) ⟨compOk_of (by kernel_rfl),fun _ _ _ _ _=>(qg_name (pg_name (i:=19) nd rfl (by first | exact Or.inl rfl | exact Or.inr rfl))),fun _ _ _ _ _=>qts_nil,fun _ _ _ _ _=>(q_callTy call_tuple_of sr_tuple rfl T.tuple PyProof.Rows.boot_tuple (qa_cons (q_rd (pv 19)) qa_nil))⟩) qa_nil))))))))
noncomputable abbrev s__law_rings:Stmt:=top 30
theorem sc__law_rings:FnScope ["rule","colours","width","height","seen","lengths","board","length"] ["rule","colours","width","height"] (defScope s__law_rings):=⟨rfl,rfl,rfl,by decide +kernel,rfl,by decide +kernel,by decide +kernel⟩
theorem ok__law_rings {P:Program}{w:World}{K:PySem.W.Frag}{mg:Str→Option Value}{base:Heap}(T:Names mg K)(C__law_boards:Cal P w K mg base 1 "_law_boards" 3 F__law_boards)(C__law_step:Cal P w K mg base 1 "_law_step" 4 F__law_step){f:Addr}{fd:FuncData}(F:Fun K "_law_rings" "_law_rings" s__law_rings f fd)(hm:mg "_law_rings" = some (.ref f)):Cal P w K mg base 2 "_law_rings" 4 F__law_rings:=by
  refine ⟨f,fd,_,fn_ok F sc__law_rings fun cdv A outer s H E hr=>?_,F.binds (ps:=["rule","colours","width","height"]) (fun _ _ _ _ _ _=>us4 fun _ _ _ _=>rfl),F.kp,hm⟩
  have nd:=sc__law_rings.nd
  exact (qs_cons (qs_set (i:=4) nd rfl (by first | exact Or.inl rfl | exact Or.inr rfl) q_dctB)
    (qs_cons (qs_set (i:=5) nd rfl (by first | exact Or.inl rfl | exact Or.inr rfl) (q_lst qa_nil))
    (qs_cons (qs_for PassesOwn.never rfl (qi_seq (q_callC C__law_boards (hr.mono (by decide)) rfl (qa_cons (q_rd (pv 1)) (qa_cons (q_rd (pv 2)) (qa_cons (q_rd (pv 3)) qa_nil))))) (qg_name (pg_name (i:=6) nd rfl (by first | exact Or.inl rfl | exact Or.inr rfl))) (qs_cons (qs_set (i:=7) nd rfl (by first | exact Or.inl rfl | exact Or.inr rfl) q_int)
    (qs_cons (qs_while 300 PassesOwn.never (qt_notB hr.units (q_rd (pv 6)) (pv 4)) (qs_cons (qs_asg q_bl (qg_setB hr.units (pv 4) (q_rd (pv 6))))
    (qs_cons (qs_set (i:=7) nd rfl (by first | exact Or.inl rfl | exact Or.inr rfl) (q_add (q_rd (pv 7)) q_int))
    (qs_one (qs_set (i:=6) nd rfl (by first | exact Or.inl rfl | exact Or.inr rfl) (q_callC C__law_step (hr.mono (by decide)) rfl (qa_cons (q_callC C__law_step (hr.mono (by decide)) rfl (qa_cons (q_rd (pv 6)) (qa_cons (q_rd (pv 0)) (qa_cons (q_rd (pv 1)) (qa_cons q_int qa_nil))))) (qa_cons (q_rd (pv 0)) (qa_cons (q_rd (pv 1)) (qa_cons q_int qa_nil))))))))))
    (qs_one (qs_if (qt_gt (q_rd (pv 7)) q_int) (qs_one (qs_expr (q_meth PySem.F.plainAttrs_list PySem.F.slot_list_append PySem.F.type_list_append mt_append mr_append (pv 5) (qa_cons (q_rd (pv 7)) qa_nil)))) qs_nil)))))
    (qs_one (qs_ret (q_comp rfl (qi_seq (q_sort_set rfl rfl T.sorted rfl T.set (qa_cons (q_rd (pv 5)) qa_nil))) ⟨compOk_of (by kernel_rfl),fun _ _ _ _ _=>(qg_name (pg_name (i:=7) nd rfl (by first | exact Or.inl rfl | exact Or.inr rfl))),fun _ _ _ _ _=>qts_nil,fun _ _ _ _ _=>(q_tup (qa_cons (q_rd (pv 7)) (qa_cons (q_meth PySem.F.plainAttrs_list PySem.F.slot_list_count PySem.F.type_list_count mt_count mr_count (pv 5) (qa_cons (q_rd (pv 7)) qa_nil)) qa_nil)))⟩))))))
noncomputable abbrev s__law_named:Stmt:=top 27
theorem sc__law_named:FnScope ["kind","number","bits","three","bit"] ["kind","number"] (defScope s__law_named):=⟨rfl,rfl,rfl,by decide +kernel,rfl,by decide +kernel,by decide +kernel⟩
theorem ok__law_named {P:Program}{w:World}{K:PySem.W.Frag}{mg:Str→Option Value}{base:Heap}(T:Names mg K){f:Addr}{fd:FuncData}(F:Fun K "_law_named" "_law_named" s__law_named f fd)(hm:mg "_law_named" = some (.ref f)):Cal P w K mg base 1 "_law_named" 2 F__law_named:=by
  refine ⟨f,fd,_,fn_ok F sc__law_named fun cdv A outer s H E hr=>?_,F.binds (ps:=["kind","number"]) (fun _ _ _ _ _ _=>us2 fun _ _=>rfl),F.kp,hm⟩
  have nd:=sc__law_named.nd
  exact (qs_cons (qs_set (i:=2) nd rfl (by first | exact Or.inl rfl | exact Or.inr rfl) (q_lst (qa_cons (q_mod (q_div (q_rd (pv 1)) q_int) q_int) (qa_cons (q_mod (q_div (q_rd (pv 1)) q_int) q_int) (qa_cons (q_mod (q_div (q_rd (pv 1)) q_int) q_int) (qa_cons (q_mod (q_rd (pv 1)) q_int) qa_nil))))))
    (qs_cons (qs_if ((qt_eq hr.units) (q_rd (pv 0)) q_int) (qs_one (qs_set (i:=2) nd rfl (by first | exact Or.inl rfl | exact Or.inr rfl) (q_lst (qa_cons (q_item (q_rd (pv 2)) q_int (fun _ _=>rfl)) (qa_cons (q_item (q_rd (pv 2)) q_int (fun _ _=>rfl)) (qa_cons (q_item (q_rd (pv 2)) q_int (fun _ _=>rfl)) (qa_cons (q_item (q_rd (pv 2)) q_int (fun _ _=>rfl)) qa_nil))))))) qs_nil)
    (qs_cons (qs_if (qt_w (qw_and ((qt_eq hr.units) (q_rd (pv 0)) q_int) (qw_and1 ((qt_eq hr.units) (q_callB (call_sum rfl) sr_sum rfl T.sum PyProof.Rows.boot_sum (qa_cons (q_rd (pv 2)) qa_nil)) q_int)))) (qs_one (qs_expr (q_meth0 PySem.F.plainAttrs_list PySem.F.slot_list_reverse PySem.F.type_list_reverse mt_reverse mr_rev (pv 2)))) (qs_one (qs_if (qt_w (qw_and ((qt_eq hr.units) (q_rd (pv 0)) q_int) (qw_and ((qt_eq hr.units) (q_item (q_rd (pv 2)) q_int (fun _ _=>rfl)) (q_item (q_rd (pv 2)) q_int (fun _ _=>rfl))) (qw_and ((qt_eq hr.units) (q_item (q_rd (pv 2)) q_int (fun _ _=>rfl)) (q_item (q_rd (pv 2)) q_int (fun _ _=>rfl))) (qw_and1 ((qt_eq hr.units) (q_callB (call_sum rfl) sr_sum rfl T.sum PyProof.Rows.boot_sum (qa_cons (q_rd (pv 2)) qa_nil)) q_int)))))) (qs_one (qs_setC (i:=2) rfl nd rfl rfl (qi_seq (q_fr (pv 2))) ⟨compOk_of (by kernel_rfl),fun _ _ _ _ _=>(qg_name (pg_name (i:=4) nd rfl (by first | exact Or.inl rfl | exact Or.inr rfl))),fun _ _ _ _ _=>qts_nil,fun _ _ _ _ _=>(q_sub q_int (q_rd (pv 4)))⟩)) qs_nil)))
    (qs_cons (qs_if (qt_w (qw_and ((qt_eq hr.units) (q_rd (pv 0)) q_int) (qw_and1 ((qt_ne hr.units) (q_callB (call_sum rfl) sr_sum rfl T.sum PyProof.Rows.boot_sum (qa_cons (q_rd (pv 2)) qa_nil)) q_int)))) (qs_cons (qs_set (i:=3) nd rfl (by first | exact Or.inl rfl | exact Or.inr rfl) ((q_eq hr.units) (q_callB (call_sum rfl) sr_sum rfl T.sum PyProof.Rows.boot_sum (qa_cons (q_rd (pv 2)) qa_nil)) q_int))
    (qs_cons (qs_setC (i:=2) rfl nd rfl rfl (qi_seq (q_fr (pv 2))) ⟨compOk_of (by kernel_rfl),fun _ _ _ _ _=>(qg_name (pg_name (i:=4) nd rfl (by first | exact Or.inl rfl | exact Or.inr rfl))),fun _ _ _ _ _=>qts_nil,fun _ _ _ _ _=>(q_sub q_int (q_rd (pv 4)))⟩)
    (qs_one (qs_if (qt_val (q_rd (pv 3))) (qs_one (qs_expr (q_meth0 PySem.F.plainAttrs_list PySem.F.slot_list_reverse PySem.F.type_list_reverse mt_reverse mr_rev (pv 2)))) qs_nil)))) qs_nil)
    (qs_one (qs_ret (q_add (q_add (q_add (q_mul q_int (q_item (q_rd (pv 2)) q_int (fun _ _=>rfl))) (q_mul q_int (q_item (q_rd (pv 2)) q_int (fun _ _=>rfl)))) (q_mul q_int (q_item (q_rd (pv 2)) q_int (fun _ _=>rfl)))) (q_item (q_rd (pv 2)) q_int (fun _ _=>rfl)))))))))
noncomputable abbrev s__law_rule_by:Stmt:=top 26
theorem sc__law_rule_by:FnScope ["cell","colours","rest","out","k","a","b"] ["cell","colours"] (defScope s__law_rule_by):=⟨rfl,rfl,rfl,by decide +kernel,rfl,by decide +kernel,by decide +kernel⟩
theorem ok__law_rule_by {P:Program}{w:World}{K:PySem.W.Frag}{mg:Str→Option Value}{base:Heap}(T:Names mg K)(C__law_named:Cal P w K mg base 1 "_law_named" 2 F__law_named){f:Addr}{fd:FuncData}(F:Fun K "_law_rule_by" "_law_rule_by" s__law_rule_by f fd)(hm:mg "_law_rule_by" = some (.ref f)):Cal P w K mg base 2 "_law_rule_by" 2 F__law_rule_by:=by
  refine ⟨f,fd,_,fn_ok F sc__law_rule_by fun cdv A outer s H E hr=>?_,F.binds (ps:=["cell","colours"]) (fun _ _ _ _ _ _=>us2 fun _ _=>rfl),F.kp,hm⟩
  have nd:=sc__law_rule_by.nd
  exact (qs_cons (qs_setC (i:=2) rfl nd rfl rfl (qi_range1 rfl T.range (qa_cons (q_mul (q_mul (q_mul (q_rd (pv 1)) (q_rd (pv 1))) (q_rd (pv 1))) (q_rd (pv 1))) qa_nil)) ⟨compOk_of (by kernel_rfl),fun _ _ _ _ _=>(qg_name (pg_name (i:=4) nd rfl (by first | exact Or.inl rfl | exact Or.inr rfl))),fun _ _ _ _ _=>qts_nil,fun _ _ _ _ _=>(q_rd (pv 4))⟩)
    (qs_cons (qs_if ((qt_eq hr.units) (q_mod (q_rd (pv 0)) q_int) q_int) (qs_one (qs_ret (q_if ((qt_eq hr.units) (q_rd (pv 1)) q_int) (q_comp rfl (qi_seq (q_fr (pv 2))) ⟨compOk_of (by kernel_rfl),fun _ _ _ _ _=>(qg_name (pg_name (i:=4) nd rfl (by first | exact Or.inl rfl | exact Or.inr rfl))),fun _ _ _ _ _=>qts_nil,fun _ _ _ _ _=>(q_callC C__law_named (hr.mono (by decide)) rfl (qa_cons (q_mod (q_div (q_rd (pv 0)) q_int) q_int) (qa_cons (q_rd (pv 4)) qa_nil)))⟩) (q_val (pv 2))))) qs_nil)
    (qs_cons (qs_set (i:=3) nd rfl (by first | exact Or.inl rfl | exact Or.inr rfl) (q_lst qa_nil))
    (qs_cons (qs_if ((qt_eq hr.units) (q_mod (q_rd (pv 0)) q_int) q_int) (qs_cons (qs_set (i:=3) nd rfl (by first | exact Or.inl rfl | exact Or.inr rfl) (q_callTy call_list_of sr_list rfl T.list PyProof.Rows.boot_list (qa_cons (q_rd (pv 2)) qa_nil)))
    (qs_cons (qs_for PassesOwn.never rfl (qi_range1 rfl T.range (qa_cons q_int qa_nil)) (qg_name (pg_name (i:=4) nd rfl (by first | exact Or.inl rfl | exact Or.inr rfl))) (qs_cons (qs_set (i:=0) nd rfl (by first | exact Or.inl rfl | exact Or.inr rfl) (q_mod (q_add (q_mul (q_rd (pv 0)) q_int) q_int) q_int))
    (qs_cons (qs_set (i:=5) nd rfl (by first | exact Or.inl rfl | exact Or.inr rfl) (q_mod (q_div (q_rd (pv 0)) q_int) (q_callB call_len_seq sr_len rfl T.len PySem.boot_len (qa_cons (q_rd (pv 3)) qa_nil))))
    (qs_cons (qs_set (i:=6) nd rfl (by first | exact Or.inl rfl | exact Or.inr rfl) (q_mod (q_div (q_div (q_rd (pv 0)) q_int) (q_callB call_len_seq sr_len rfl T.len PySem.boot_len (qa_cons (q_rd (pv 3)) qa_nil))) (q_callB call_len_seq sr_len rfl T.len PySem.boot_len (qa_cons (q_rd (pv 3)) qa_nil))))
    (qs_one (qs_asg (q_tup (qa_cons (q_item (q_rd (pv 3)) (q_rd (pv 6)) (fun _ _=>rfl)) (qa_cons (q_item (q_rd (pv 3)) (q_rd (pv 5)) (fun _ _=>rfl)) qa_nil))) (qg_tup rfl (qgs_cons (qg_ix (pv 3) (q_rd (pv 5))) (qgs_cons (qg_ix (pv 3) (q_rd (pv 6))) qgs_nil)))))))))
    (qs_one (qs_ret (q_val (pv 3)))))) qs_nil)
    (qs_cons (qs_while 100 PassesOwn.never (qt_gt (q_callB call_len_seq sr_len rfl T.len PySem.boot_len (qa_cons (q_rd (pv 2)) qa_nil)) q_int) (qs_cons (qs_set (i:=0) nd rfl (by first | exact Or.inl rfl | exact Or.inr rfl) (q_mod (q_add (q_mul (q_rd (pv 0)) q_int) q_int) q_int))
    (qs_one (qs_expr (q_meth PySem.F.plainAttrs_list PySem.F.slot_list_append PySem.F.type_list_append mt_append mr_append (pv 3) (qa_cons (q_meth PySem.F.plainAttrs_list PySem.F.slot_list_pop PySem.F.type_list_pop mt_popAt mr_popAt (pv 2) (qa_cons (q_mod (q_div (q_rd (pv 0)) q_int) (q_callB call_len_seq sr_len rfl T.len PySem.boot_len (qa_cons (q_rd (pv 2)) qa_nil))) qa_nil)) qa_nil))))))
    (qs_one (qs_ret (q_val (pv 3)))))))))
noncomputable abbrev s_law:Stmt:=top 32
noncomputable def b0_law:MS:=(sIf (mOr (mNot (mTru (mOpF (gIsi "tuple") (mCons (mRd 6) mNil)))) (mOr (mNot (mTru (mOpF (ofLen 1 F__law_whole) (mCons (mOpF gIx (mCons (mRd 6) (mCons (mC (.int 0)) mNil))) mNil)))) (mNot (mTru (mOpF (ofLen 1 F__law_whole) (mCons (mOpF gIx (mCons (mRd 6) (mCons (mC (.int 1)) mNil))) mNil)))))) (sRet (mC (.bl false))) sNil)
noncomputable def l0_law:MS:=sFor (setN 6) (mItS (mFr 5)) b0_law
noncomputable def m_law:MS:=(sSeq (sSet 1 (mOpF gAdd (mCons (mC (.int 2)) (mCons (mOpF gMod (mCons (mOpF (ofLen 2 F__law_cell_at) (mCons (mRd 0) (mCons (mC (.int 0)) mNil))) (mCons (mC (.int 2)) mNil))) mNil))))
    (sSeq (sSet 2 (mOpF (ofLen 2 F__law_rule_by) (mCons (mOpF (ofLen 2 F__law_cell_at) (mCons (mRd 0) (mCons (mC (.int 1)) mNil))) (mCons (mRd 1) mNil))))
    (sSeq (sSet 3 (mOpF gIx (mCons (mOpF gLst' (mPrs [(2,2),(4,2),(2,4)])) (mCons (mOpF gMod (mCons (mOpF (ofLen 2 F__law_cell_at) (mCons (mRd 0) (mCons (mC (.int 2)) mNil))) (mCons (mC (.int 3)) mNil))) mNil))))
    (sSeq (sIf (mTru (mOpF (gEq false) (mCons (mRd 1) (mCons (mC (.int 3)) mNil)))) (sSet 3 (mOpF gTup' (mCons (mC (.int 2)) (mCons (mC (.int 2)) mNil)))) sNil)
    (sSeq (sSet 4 (mOpF (ofLen 4 F__law_rings) (mCons (mRd 2) (mCons (mRd 1) (mCons (mOpF gIx (mCons (mRd 3) (mCons (mC (.int 0)) mNil))) (mCons (mOpF gIx (mCons (mRd 3) (mCons (mC (.int 1)) mNil))) mNil))))))
    (sSeq (sSet 5 (mOpF (ofLen 4 (nrm FX_rings)) (mCons (mRd 2) (mCons (mRd 1) (mCons (mOpF gIx (mCons (mRd 3) (mCons (mC (.int 0)) mNil))) (mCons (mOpF gIx (mCons (mRd 3) (mCons (mC (.int 1)) mNil))) mNil))))))
    (sSeq (sIf (mOr (mNot (mTru (mOpF (gIsi "list") (mCons (mRd 5) mNil)))) (mTru (mOpF (gEq true) (mCons (mRd 5) (mCons (mRd 4) mNil))))) (sRet (mC (.bl false))) sNil)
    (sSeq l0_law
    (sSeq (sIf (mTru (mOpF (gEq true) (mCons (mOpF (ofLen 4 (nrm FX_rings)) (mCons (mOpF (ofLen 1 F_rule_back) (mCons (mRd 2) mNil)) (mCons (mRd 1) (mCons (mOpF gIx (mCons (mRd 3) (mCons (mC (.int 0)) mNil))) (mCons (mOpF gIx (mCons (mRd 3) (mCons (mC (.int 1)) mNil))) mNil))))) (mCons (mRd 4) mNil)))) (sRet (mC (.bl false))) sNil)
    (sSeq (sSet 7 (mOpF (ofLen 2 F__law_cell_at) (mCons (mRd 0) (mCons (mC (.int 3)) mNil))))
    (sSeq (sIf (mTru (mOpF (gEq false) (mCons (mOpF gMod (mCons (mOpF gDiv (mCons (mRd 7) (mCons (mC (.int 49)) mNil))) (mCons (mC (.int 3)) mNil))) (mCons (mC (.int 1)) mNil)))) (sSeq (sSet 8 (mOpF gIx (mCons (mPick (mPrss [[(6,2),(2,6)],[(4,2),(2,4)]]) (mOpF gSub (mCons (mRd 1) (mCons (mC (.int 2)) mNil)))) (mCons (mOpF gMod (mCons (mRd 7) (mCons (mC (.int 2)) mNil))) mNil))))
    (sRet (mOpF (ofLen 4 F__law_refused) (mCons (mRd 2) (mCons (mRd 1) (mCons (mOpF gIx (mCons (mRd 8) (mCons (mC (.int 0)) mNil))) (mCons (mOpF gIx (mCons (mRd 8) (mCons (mC (.int 1)) mNil))) mNil))))))) sNil)
    (sRet (mOpF (ofLen 4 F__law_refused) (mCons (mRd 2) (mCons (mRd 1) (mCons (mOpF gAdd (mCons (mC (.int 4)) (mCons (mOpF gMul (mCons (mC (.int 2)) (mCons (mOpF gMod (mCons (mRd 7) (mCons (mC (.int 7)) mNil))) mNil))) mNil))) (mCons (mOpF gAdd (mCons (mC (.int 4)) (mCons (mOpF gMul (mCons (mC (.int 2)) (mCons (mOpF gMod (mCons (mOpF gDiv (mCons (mRd 7) (mCons (mC (.int 7)) mNil))) (mCons (mC (.int 7)) mNil))) mNil))) mNil))) mNil)))))))))))))))))
noncomputable def F_law:List Slot→Option Slot:=runF 1 9 m_law
theorem sc_law:FnScope ["script","colours","rule","size","due","found","pair","cell","few"] ["script"] (defScope s_law):=⟨rfl,rfl,rfl,by decide +kernel,rfl,by decide +kernel,by decide +kernel⟩
theorem rows_law:∃ es0 es1,pairsE es0=some [(2,2),(4,2),(2,4)]∧rowsE es1=some [[(6,2),(2,6)],[(4,2),(2,4)]]∧defBody s_law=putL es0 es1 (defBody s_law):=⟨getS (defBody s_law),getF (defBody s_law),by kernel_rfl,by kernel_rfl,by kernel_rfl⟩
theorem fn_law {P:Program}{w:World}{K:PySem.W.Frag}{mg:Str→Option Value}{base:Heap}(T:Names mg K)(C__law_refused:Cal P w K mg base 7 "_law_refused" 4 F__law_refused)(C__law_cell_at:Cal P w K mg base 1 "_law_cell_at" 2 F__law_cell_at)(C_rings:CalX P w K mg base 6 "rings" 4 FX_rings)(C_rule_back:Cal P w K mg base 1 "rule_back" 1 F_rule_back)(C__law_whole:Cal P w K mg base 1 "_law_whole" 1 F__law_whole)(C__law_rings:Cal P w K mg base 2 "_law_rings" 4 F__law_rings)(C__law_rule_by:Cal P w K mg base 2 "_law_rule_by" 2 F__law_rule_by){f:Addr}{fd:FuncData}(F:Fun K "law" "law" s_law f fd):FnOk P w K mg base CX0 8 f fd ["script"] (spF K 1 F_law):=by
  refine fn_ok F sc_law fun cdv A outer s H E hr=>?_
  have nd:=sc_law.nd
  obtain ⟨es0,es1,hes0,hes1,hb⟩:=rows_law
  rw [hb]
  exact (qs_cons (qs_set (i:=1) nd rfl (by first | exact Or.inl rfl | exact Or.inr rfl) (q_add q_int (q_mod (q_callC C__law_cell_at (hr.mono (by decide)) rfl (qa_cons (q_rd (pv 0)) (qa_cons q_int qa_nil))) q_int)))
    (qs_cons (qs_set (i:=2) nd rfl (by first | exact Or.inl rfl | exact Or.inr rfl) (q_callC C__law_rule_by (hr.mono (by decide)) rfl (qa_cons (q_callC C__law_cell_at (hr.mono (by decide)) rfl (qa_cons (q_rd (pv 0)) (qa_cons q_int qa_nil))) (qa_cons (q_rd (pv 1)) qa_nil))))
    (qs_cons (qs_set (i:=3) nd rfl (by first | exact Or.inl rfl | exact Or.inr rfl) (q_item (q_lst (qa_pairs hes0)) (q_mod (q_callC C__law_cell_at (hr.mono (by decide)) rfl (qa_cons (q_rd (pv 0)) (qa_cons q_int qa_nil))) q_int) (fun _ _=>rfl)))
    (qs_cons (qs_if ((qt_eq hr.units) (q_rd (pv 1)) q_int) (qs_one (qs_set (i:=3) nd rfl (by first | exact Or.inl rfl | exact Or.inr rfl) (q_tup (qa_cons q_int (qa_cons q_int qa_nil))))) qs_nil)
    (qs_cons (qs_set (i:=4) nd rfl (by first | exact Or.inl rfl | exact Or.inr rfl) (q_callC C__law_rings (hr.mono (by decide)) rfl (qa_cons (q_rd (pv 2)) (qa_cons (q_rd (pv 1)) (qa_cons (q_item (q_rd (pv 3)) q_int (fun _ _=>rfl)) (qa_cons (q_item (q_rd (pv 3)) q_int (fun _ _=>rfl)) qa_nil))))))
    (qs_cons (qs_set (i:=5) nd rfl (by first | exact Or.inl rfl | exact Or.inr rfl) (q_callX C_rings (hr.mono (by decide)) rfl (qa_cons (q_rd (pv 2)) (qa_cons (q_rd (pv 1)) (qa_cons (q_item (q_rd (pv 3)) q_int (fun _ _=>rfl)) (qa_cons (q_item (q_rd (pv 3)) q_int (fun _ _=>rfl)) qa_nil))))))
    (qs_cons (qs_if (qt_w (qw_or (qt_not (qt_val (q_isi (x := "isinstance") T.kLst rfl T.isinstance rfl T.list PyProof.Rows.boot_list (q_rd (pv 5))))) (qw_or1 ((qt_ne hr.units) (q_rd (pv 5)) (q_rd (pv 4)))))) (qs_one (qs_ret q_bl)) qs_nil)
    (qs_cons (qs_for PassesOwn.never rfl (qi_seq (q_fr (pv 5))) (qg_name (pg_name (i:=6) nd rfl (by first | exact Or.inl rfl | exact Or.inr rfl))) (qs_one (qs_if (qt_w (qw_or (qt_not (qt_val (q_isi (x := "isinstance") T.kTup rfl T.isinstance rfl T.tuple PyProof.Rows.boot_tuple (q_rd (pv 6))))) (qw_or (qt_not (qt_val (q_callC C__law_whole (hr.mono (by decide)) rfl (qa_cons (q_item (q_rd (pv 6)) q_int (fun _ _=>rfl)) qa_nil)))) (qw_or1 (qt_not (qt_val (q_callC C__law_whole (hr.mono (by decide)) rfl (qa_cons (q_item (q_rd (pv 6)) q_int (fun _ _=>rfl)) qa_nil)))))))) (qs_one (qs_ret q_bl)) qs_nil)))
    (qs_cons (qs_if ((qt_ne hr.units) (q_callX C_rings (hr.mono (by decide)) rfl (qa_cons (q_callC C_rule_back (hr.mono (by decide)) rfl (qa_cons (q_rd (pv 2)) qa_nil)) (qa_cons (q_rd (pv 1)) (qa_cons (q_item (q_rd (pv 3)) q_int (fun _ _=>rfl)) (qa_cons (q_item (q_rd (pv 3)) q_int (fun _ _=>rfl)) qa_nil))))) (q_rd (pv 4))) (qs_one (qs_ret q_bl)) qs_nil)
    (qs_cons (qs_set (i:=7) nd rfl (by first | exact Or.inl rfl | exact Or.inr rfl) (q_callC C__law_cell_at (hr.mono (by decide)) rfl (qa_cons (q_rd (pv 0)) (qa_cons q_int qa_nil))))
    (qs_cons (qs_if ((qt_eq hr.units) (q_mod (q_div (q_rd (pv 7)) q_int) q_int) q_int) (qs_cons (qs_set (i:=8) nd rfl (by first | exact Or.inl rfl | exact Or.inr rfl) (q_item (q_pick (qa_rows hes1) (q_sub (q_rd (pv 1)) q_int) (fun _ _=>rfl)) (q_mod (q_rd (pv 7)) q_int) (fun _ _=>rfl)))
    (qs_one (qs_ret (q_callC C__law_refused (hr.mono (by decide)) rfl (qa_cons (q_rd (pv 2)) (qa_cons (q_rd (pv 1)) (qa_cons (q_item (q_rd (pv 8)) q_int (fun _ _=>rfl)) (qa_cons (q_item (q_rd (pv 8)) q_int (fun _ _=>rfl)) qa_nil)))))))) qs_nil)
    (qs_one (qs_ret (q_callC C__law_refused (hr.mono (by decide)) rfl (qa_cons (q_rd (pv 2)) (qa_cons (q_rd (pv 1)) (qa_cons (q_add q_int (q_mul q_int (q_mod (q_rd (pv 7)) q_int))) (qa_cons (q_add q_int (q_mul q_int (q_mod (q_div (q_rd (pv 7)) q_int) q_int))) qa_nil))))))))))))))))))
theorem all_mk {l:PySem.W.OpenLaw}{w:World}{K:PySem.W.Frag}{h:Heap}{mg:Str→Option Value}{fa f0 f1 f2 f3 f4 f5 f6 f7 f8 f9 f10 f11 f12 f13 f14 f15 f16 f17 f18 f19 f20 f21 f22 x_TooMany x_BlockError x_TooLong:Addr}{t_MOST_BOARDS:Tok}(X:K.In h)(G:h.Ns mainGlobals mg)(hfa:mg "law" = some (.ref fa)){od0 an0 od1 an1 od2 an2 od3 an3 od4 an4 od5 an5 od6 an6 od7 an7 od8 an8 od9 an9 od10 an10 od11 an11 od12 an12 od13 an13 od14 an14 od15 an15 od16 an16 od17 an17 od18 an18 od19 an19 od20 an20 od21 an21 od22 an22:Option Addr}{sl0 sl1 sl2 sl3 sl4 sl5 sl6 sl7 sl8 sl9 sl10 sl11 sl12 sl13 sl14 sl15 sl16 sl17 sl18 sl19 sl20 sl21 sl22:Array (Option Value)}{oc0 kV0 dc0 pm0 cd0 ct0 oc1 kV1 dc1 pm1 cd1 ct1 oc2 kV2 dc2 pm2 cd2 ct2 oc3 kV3 dc3 pm3 cd3 ct3 oc4 kV4 dc4 pm4 cd4 ct4 oc5 kV5 dc5 pm5 cd5 ct5 oc6 kV6 dc6 pm6 cd6 ct6 oc7 kV7 dc7 pm7 cd7 ct7 oc8 kV8 dc8 pm8 cd8 ct8 oc9 kV9 dc9 pm9 cd9 ct9 oc10 kV10 dc10 pm10 cd10 ct10 oc11 kV11 dc11 pm11 cd11 ct11 oc12 kV12 dc12 pm12 cd12 ct12 oc13 kV13 dc13 pm13 cd13 ct13 oc14 kV14 dc14 pm14 cd14 ct14 oc15 kV15 dc15 pm15 cd15 ct15 oc16 kV16 dc16 pm16 cd16 ct16 oc17 kV17 dc17 pm17 cd17 ct17 oc18 kV18 dc18 pm18 cd18 ct18 oc19 kV19 dc19 pm19 cd19 ct19 oc20 kV20 dc20 pm20 cd20 ct20 oc21 kV21 dc21 pm21 cd21 ct21 oc22 kV22 dc22 pm22 cd22 ct22:Value}
    (a0:PySem.W.nsIn K mainGlobals "all_tuples" = some (some (.ref f0))) (l0:K.lookup f0=some ⟨oc0,od0,.func (PySem.W.fnOf "all_tuples" "all_tuples" (defArgs s_all_tuples) (defBody s_all_tuples) (defScope s_all_tuples) .none kV0 dc0 pm0 an0 cd0 ct0),sl0⟩) (c0:PySem.W.codeIn K cd0 "all_tuples" = true) (k0:PySem.W.keepIn K (.ref f0)=true)
    (a1:PySem.W.nsIn K mainGlobals "all_boards" = some (some (.ref f1))) (l1:K.lookup f1=some ⟨oc1,od1,.func (PySem.W.fnOf "all_boards" "all_boards" (defArgs s_all_boards) (defBody s_all_boards) (defScope s_all_boards) .none kV1 dc1 pm1 an1 cd1 ct1),sl1⟩) (c1:PySem.W.codeIn K cd1 "all_boards" = true) (k1:PySem.W.keepIn K (.ref f1)=true)
    (a2:PySem.W.nsIn K mainGlobals "moved_row" = some (some (.ref f2))) (l2:K.lookup f2=some ⟨oc2,od2,.func (PySem.W.fnOf "moved_row" "moved_row" (defArgs s_moved_row) (defBody s_moved_row) (defScope s_moved_row) .none kV2 dc2 pm2 an2 cd2 ct2),sl2⟩) (c2:PySem.W.codeIn K cd2 "moved_row" = true) (k2:PySem.W.keepIn K (.ref f2)=true)
    (a3:PySem.W.nsIn K mainGlobals "moved" = some (some (.ref f3))) (l3:K.lookup f3=some ⟨oc3,od3,.func (PySem.W.fnOf "moved" "moved" (defArgs s_moved) (defBody s_moved) (defScope s_moved) .none kV3 dc3 pm3 an3 cd3 ct3),sl3⟩) (c3:PySem.W.codeIn K cd3 "moved" = true) (k3:PySem.W.keepIn K (.ref f3)=true)
    (a4:PySem.W.nsIn K mainGlobals "number_of" = some (some (.ref f4))) (l4:K.lookup f4=some ⟨oc4,od4,.func (PySem.W.fnOf "number_of" "number_of" (defArgs s_number_of) (defBody s_number_of) (defScope s_number_of) .none kV4 dc4 pm4 an4 cd4 ct4),sl4⟩) (c4:PySem.W.codeIn K cd4 "number_of" = true) (k4:PySem.W.keepIn K (.ref f4)=true)
    (a5:PySem.W.nsIn K mainGlobals "stepped_rows" = some (some (.ref f5))) (l5:K.lookup f5=some ⟨oc5,od5,.func (PySem.W.fnOf "stepped_rows" "stepped_rows" (defArgs s_stepped_rows) (defBody s_stepped_rows) (defScope s_stepped_rows) .none kV5 dc5 pm5 an5 cd5 ct5),sl5⟩) (c5:PySem.W.codeIn K cd5 "stepped_rows" = true) (k5:PySem.W.keepIn K (.ref f5)=true)
    (a6:PySem.W.nsIn K mainGlobals "stepped" = some (some (.ref f6))) (l6:K.lookup f6=some ⟨oc6,od6,.func (PySem.W.fnOf "stepped" "stepped" (defArgs s_stepped) (defBody s_stepped) (defScope s_stepped) .none kV6 dc6 pm6 an6 cd6 ct6),sl6⟩) (c6:PySem.W.codeIn K cd6 "stepped" = true) (k6:PySem.W.keepIn K (.ref f6)=true)
    (a7:PySem.W.nsIn K mainGlobals "block_of" = some (some (.ref f7))) (l7:K.lookup f7=some ⟨oc7,od7,.func (PySem.W.fnOf "block_of" "block_of" (defArgs s_block_of) (defBody s_block_of) (defScope s_block_of) .none kV7 dc7 pm7 an7 cd7 ct7),sl7⟩) (c7:PySem.W.codeIn K cd7 "block_of" = true) (k7:PySem.W.keepIn K (.ref f7)=true)
    (a8:PySem.W.nsIn K mainGlobals "outcomes_of" = some (some (.ref f8))) (l8:K.lookup f8=some ⟨oc8,od8,.func (PySem.W.fnOf "outcomes_of" "outcomes_of" (defArgs s_outcomes_of) (defBody s_outcomes_of) (defScope s_outcomes_of) .none kV8 dc8 pm8 an8 cd8 ct8),sl8⟩) (c8:PySem.W.codeIn K cd8 "outcomes_of" = true) (k8:PySem.W.keepIn K (.ref f8)=true)
    (a9:PySem.W.nsIn K mainGlobals "forward" = some (some (.ref f9))) (l9:K.lookup f9=some ⟨oc9,od9,.func (PySem.W.fnOf "forward" "forward" (defArgs s_forward) (defBody s_forward) (defScope s_forward) .none kV9 dc9 pm9 an9 cd9 ct9),sl9⟩) (c9:PySem.W.codeIn K cd9 "forward" = true) (k9:PySem.W.keepIn K (.ref f9)=true)
    (a10:PySem.W.nsIn K mainGlobals "ring_of" = some (some (.ref f10))) (l10:K.lookup f10=some ⟨oc10,od10,.func (PySem.W.fnOf "ring_of" "ring_of" (defArgs s_ring_of) (defBody s_ring_of) (defScope s_ring_of) .none kV10 dc10 pm10 an10 cd10 ct10),sl10⟩) (c10:PySem.W.codeIn K cd10 "ring_of" = true) (k10:PySem.W.keepIn K (.ref f10)=true)
    (a11:PySem.W.nsIn K mainGlobals "refuse_too_many" = some (some (.ref f11))) (l11:K.lookup f11=some ⟨oc11,od11,.func (PySem.W.fnOf "refuse_too_many" "refuse_too_many" (defArgs s_refuse_too_many) (defBody s_refuse_too_many) (defScope s_refuse_too_many) .none kV11 dc11 pm11 an11 cd11 ct11),sl11⟩) (c11:PySem.W.codeIn K cd11 "refuse_too_many" = true) (k11:PySem.W.keepIn K (.ref f11)=true)
    (a12:PySem.W.nsIn K mainGlobals "rings" = some (some (.ref f12))) (l12:K.lookup f12=some ⟨oc12,od12,.func (PySem.W.fnOf "rings" "rings" (defArgs s_rings) (defBody s_rings) (defScope s_rings) .none kV12 dc12 pm12 an12 cd12 ct12),sl12⟩) (c12:PySem.W.codeIn K cd12 "rings" = true) (k12:PySem.W.keepIn K (.ref f12)=true)
    (a13:PySem.W.nsIn K mainGlobals "_law_refused" = some (some (.ref f13))) (l13:K.lookup f13=some ⟨oc13,od13,.func (PySem.W.fnOf "_law_refused" "_law_refused" (defArgs s__law_refused) (defBody s__law_refused) (defScope s__law_refused) .none kV13 dc13 pm13 an13 cd13 ct13),sl13⟩) (c13:PySem.W.codeIn K cd13 "_law_refused" = true) (k13:PySem.W.keepIn K (.ref f13)=true)
    (a14:PySem.W.nsIn K mainGlobals "_law_cell_at" = some (some (.ref f14))) (l14:K.lookup f14=some ⟨oc14,od14,.func (PySem.W.fnOf "_law_cell_at" "_law_cell_at" (defArgs s__law_cell_at) (defBody s__law_cell_at) (defScope s__law_cell_at) .none kV14 dc14 pm14 an14 cd14 ct14),sl14⟩) (c14:PySem.W.codeIn K cd14 "_law_cell_at" = true) (k14:PySem.W.keepIn K (.ref f14)=true)
    (a15:PySem.W.nsIn K mainGlobals "rule_back" = some (some (.ref f15))) (l15:K.lookup f15=some ⟨oc15,od15,.func (PySem.W.fnOf "rule_back" "rule_back" (defArgs s_rule_back) (defBody s_rule_back) (defScope s_rule_back) .none kV15 dc15 pm15 an15 cd15 ct15),sl15⟩) (c15:PySem.W.codeIn K cd15 "rule_back" = true) (k15:PySem.W.keepIn K (.ref f15)=true)
    (a16:PySem.W.nsIn K mainGlobals "_law_whole" = some (some (.ref f16))) (l16:K.lookup f16=some ⟨oc16,od16,.func (PySem.W.fnOf "_law_whole" "_law_whole" (defArgs s__law_whole) (defBody s__law_whole) (defScope s__law_whole) .none kV16 dc16 pm16 an16 cd16 ct16),sl16⟩) (c16:PySem.W.codeIn K cd16 "_law_whole" = true) (k16:PySem.W.keepIn K (.ref f16)=true)
    (a17:PySem.W.nsIn K mainGlobals "_law_boards" = some (some (.ref f17))) (l17:K.lookup f17=some ⟨oc17,od17,.func (PySem.W.fnOf "_law_boards" "_law_boards" (defArgs s__law_boards) (defBody s__law_boards) (defScope s__law_boards) .none kV17 dc17 pm17 an17 cd17 ct17),sl17⟩) (c17:PySem.W.codeIn K cd17 "_law_boards" = true) (k17:PySem.W.keepIn K (.ref f17)=true)
    (a18:PySem.W.nsIn K mainGlobals "_law_step" = some (some (.ref f18))) (l18:K.lookup f18=some ⟨oc18,od18,.func (PySem.W.fnOf "_law_step" "_law_step" (defArgs s__law_step) (defBody s__law_step) (defScope s__law_step) .none kV18 dc18 pm18 an18 cd18 ct18),sl18⟩) (c18:PySem.W.codeIn K cd18 "_law_step" = true) (k18:PySem.W.keepIn K (.ref f18)=true)
    (a19:PySem.W.nsIn K mainGlobals "_law_rings" = some (some (.ref f19))) (l19:K.lookup f19=some ⟨oc19,od19,.func (PySem.W.fnOf "_law_rings" "_law_rings" (defArgs s__law_rings) (defBody s__law_rings) (defScope s__law_rings) .none kV19 dc19 pm19 an19 cd19 ct19),sl19⟩) (c19:PySem.W.codeIn K cd19 "_law_rings" = true) (k19:PySem.W.keepIn K (.ref f19)=true)
    (a20:PySem.W.nsIn K mainGlobals "_law_named" = some (some (.ref f20))) (l20:K.lookup f20=some ⟨oc20,od20,.func (PySem.W.fnOf "_law_named" "_law_named" (defArgs s__law_named) (defBody s__law_named) (defScope s__law_named) .none kV20 dc20 pm20 an20 cd20 ct20),sl20⟩) (c20:PySem.W.codeIn K cd20 "_law_named" = true) (k20:PySem.W.keepIn K (.ref f20)=true)
    (a21:PySem.W.nsIn K mainGlobals "_law_rule_by" = some (some (.ref f21))) (l21:K.lookup f21=some ⟨oc21,od21,.func (PySem.W.fnOf "_law_rule_by" "_law_rule_by" (defArgs s__law_rule_by) (defBody s__law_rule_by) (defScope s__law_rule_by) .none kV21 dc21 pm21 an21 cd21 ct21),sl21⟩) (c21:PySem.W.codeIn K cd21 "_law_rule_by" = true) (k21:PySem.W.keepIn K (.ref f21)=true)
    (a22:PySem.W.nsIn K mainGlobals "law" = some (some (.ref f22))) (l22:K.lookup f22=some ⟨oc22,od22,.func (PySem.W.fnOf "law" "law" (defArgs s_law) (defBody s_law) (defScope s_law) .none kV22 dc22 pm22 an22 cd22 ct22),sl22⟩) (c22:PySem.W.codeIn K cd22 "law" = true) (k22:PySem.W.keepIn K (.ref f22)=true)
    (ax0:PySem.W.nsIn K mainGlobals "TooMany" = some (some (.ref x_TooMany))) (ex0:PySem.W.excIn K x_TooMany vBases "ValueError.__new__" = true) (ax1:PySem.W.nsIn K mainGlobals "BlockError" = some (some (.ref x_BlockError))) (ex1:PySem.W.excIn K x_BlockError vBases "ValueError.__new__" = true) (ax2:PySem.W.nsIn K mainGlobals "TooLong" = some (some (.ref x_TooLong))) (ex2:PySem.W.excIn K x_TooLong vBases "ValueError.__new__" = true)
    (em0:PySem.W.exmOne K (.ref x_TooMany) (.ref x_BlockError)=some true)
    (cn0:PySem.W.nsIn K mainGlobals "MOST_BOARDS" = some (some (.int 300 t_MOST_BOARDS)))
    (ka0:PySem.W.specialIn K (.builtin "object.__class__") "__get__" = some (some (.builtin "getset_descriptor.__get__"))) (ka1:PySem.W.takesIn K (.builtin "object.__class__")=some true)
    (kx0_0:PySem.W.isClsIn K x_TooMany=true) (kx0_1:PySem.W.findIn K (.ref x_TooMany) "__getattribute__" = some (some (.builtin "BaseException.__getattribute__"))) (kx0_2:PySem.W.findIn K (.ref x_TooMany) "__getattr__" = some none) (kx0_3:PySem.W.findIn K (.ref x_TooMany) "__class__" = some (some (.builtin "object.__class__"))) (kx0_4:PySem.W.mroIn K x_TooMany (.type "object")=some true) (kx0_5:PySem.W.mroIn K x_TooMany (.type "BaseException")=some true)
    (ki0:PySem.W.kitOne K (.ref x_TooMany) (.type "ValueError")=some true) (ki1:PySem.W.kitOne K (.ref x_TooMany) (.ref x_TooLong)=some false) (ki2:PySem.W.kitOne K (.ref x_TooMany) (.ref x_TooMany)=some true)
    (kv0:PySem.W.nsIn K mainGlobals "ValueError" = some none)
    (z0:PySem.W.nsIn K mainGlobals "len" = some none) (z1:PySem.W.nsIn K mainGlobals "range" = some none) (z2:PySem.W.nsIn K mainGlobals "tuple" = some none) (z3:PySem.W.nsIn K mainGlobals "list" = some none) (z4:PySem.W.nsIn K mainGlobals "int" = some none) (z5:PySem.W.nsIn K mainGlobals "sum" = some none) (z6:PySem.W.nsIn K mainGlobals "enumerate" = some none) (z7:PySem.W.nsIn K mainGlobals "isinstance" = some none) (z8:PySem.W.nsIn K mainGlobals "bool" = some none) (z9:PySem.W.nsIn K mainGlobals "reversed" = some none) (z10:PySem.W.nsIn K mainGlobals "min" = some none) (z11:PySem.W.nsIn K mainGlobals "max" = some none) (z12:PySem.W.nsIn K mainGlobals "str" = some none) (z13:PySem.W.nsIn K mainGlobals "sorted" = some none) (z14:PySem.W.nsIn K mainGlobals "set" = some none):
    ∃ fd:FuncData,(∀ (s:Shared) (v:Value),BindsTo s fd ⟨[v],[]⟩ [("script",v)])∧∀ base:Heap,K.In base→base.Ns mainGlobals mg→FnOk l.prog w K mg base CX0 8 fa fd ["script"] (spF K 1 F_law):=by
  have e:=hfa.symm.trans (PySem.W.mg_of X G a22)
  cases e
  have T:Names mg K:=Names.mk' (PySem.W.mg_none_of X G z0) (PySem.W.mg_none_of X G z1) (PySem.W.mg_none_of X G z2) (PySem.W.mg_none_of X G z3) (PySem.W.mg_none_of X G z4) (PySem.W.mg_none_of X G z5) (PySem.W.mg_none_of X G z6) (PySem.W.mg_none_of X G z7) (PySem.W.mg_none_of X G z8) (PySem.W.mg_none_of X G z9) (PySem.W.mg_none_of X G z10) (PySem.W.mg_none_of X G z11) (PySem.W.mg_none_of X G z12) (PySem.W.mg_none_of X G z13) (PySem.W.mg_none_of X G z14)
  refine ⟨PySem.W.fnOf "law" "law" (defArgs s_law) (defBody s_law) (defScope s_law) .none kV22 dc22 pm22 an22 cd22 ct22,fun s v=>.of_eq rfl,fun base _ _=>?_⟩
  have O_TooMany:OwnX K mg "TooMany" x_TooMany:=⟨PySem.W.mg_of X G ax0,ex0⟩
  have O_BlockError:OwnX K mg "BlockError" x_BlockError:=⟨PySem.W.mg_of X G ax1,ex1⟩
  have O_TooLong:OwnX K mg "TooLong" x_TooLong:=⟨PySem.W.mg_of X G ax2,ex2⟩
  have e_TooMany_BlockError:=em0
  have V_MOST_BOARDS:mg "MOST_BOARDS" = some (.int 300 t_MOST_BOARDS):=PySem.W.mg_of X G cn0
  have K_TooMany:ExcKit K x_TooMany:=⟨kx0_0,kx0_1,kx0_2,kx0_3,ka0,ka1,kx0_4,kx0_5⟩
  have V_ValueError:mg "ValueError" = none:=PySem.W.mg_none_of X G kv0
  have i_TooMany_ValueError:=ki0
  have i_TooMany_TooLong:=ki1
  have i_TooMany_TooMany:=ki2
  have C_all_tuples:Cal l.prog w K mg base 1 "all_tuples" 2 F_all_tuples:=ok_all_tuples T   (fun_mk (st:=s_all_tuples) l0 c0 k0) (PySem.W.mg_of X G a0)
  have C_all_boards:Cal l.prog w K mg base 2 "all_boards" 3 F_all_boards:=ok_all_boards T  C_all_tuples (fun_mk (st:=s_all_boards) l1 c1 k1) (PySem.W.mg_of X G a1)
  have C_moved_row:Cal l.prog w K mg base 1 "moved_row" 2 F_moved_row:=ok_moved_row T   (fun_mk (st:=s_moved_row) l2 c2 k2) (PySem.W.mg_of X G a2)
  have C_moved:Cal l.prog w K mg base 2 "moved" 3 F_moved:=ok_moved T  C_moved_row (fun_mk (st:=s_moved) l3 c3 k3) (PySem.W.mg_of X G a3)
  have C_number_of:Cal l.prog w K mg base 1 "number_of" 2 F_number_of:=ok_number_of T   (fun_mk (st:=s_number_of) l4 c4 k4) (PySem.W.mg_of X G a4)
  have C_stepped_rows:Cal l.prog w K mg base 2 "stepped_rows" 4 F_stepped_rows:=ok_stepped_rows T  C_number_of (fun_mk (st:=s_stepped_rows) l5 c5 k5) (PySem.W.mg_of X G a5)
  have C_stepped:Cal l.prog w K mg base 3 "stepped" 4 F_stepped:=ok_stepped T  C_moved C_stepped_rows (fun_mk (st:=s_stepped) l6 c6 k6) (PySem.W.mg_of X G a6)
  have C_block_of:Cal l.prog w K mg base 1 "block_of" 2 F_block_of:=ok_block_of T   (fun_mk (st:=s_block_of) l7 c7 k7) (PySem.W.mg_of X G a7)
  have C_outcomes_of:Cal l.prog w K mg base 2 "outcomes_of" 2 F_outcomes_of:=ok_outcomes_of T  C_block_of (fun_mk (st:=s_outcomes_of) l8 c8 k8) (PySem.W.mg_of X G a8)
  have C_forward:Cal l.prog w K mg base 4 "forward" 5 F_forward:=ok_forward T  C_stepped C_outcomes_of (fun_mk (st:=s_forward) l9 c9 k9) (PySem.W.mg_of X G a9)
  have C_ring_of:Cal l.prog w K mg base 5 "ring_of" 3 F_ring_of:=ok_ring_of T  C_forward (fun_mk (st:=s_ring_of) l10 c10 k10) (PySem.W.mg_of X G a10)
  have C_refuse_too_many:CalX l.prog w K mg base 1 "refuse_too_many" 2 FX_refuse_too_many:=ok_refuse_too_many T V_MOST_BOARDS O_TooMany  (fun_mk (st:=s_refuse_too_many) l11 c11 k11) (PySem.W.mg_of X G a11)
  have C_rings:CalX l.prog w K mg base 6 "rings" 4 FX_rings:=ok_rings T  C_all_boards C_ring_of C_refuse_too_many (fun_mk (st:=s_rings) l12 c12 k12) (PySem.W.mg_of X G a12)
  have C__law_refused:Cal l.prog w K mg base 7 "_law_refused" 4 F__law_refused:=ok__law_refused T O_TooMany O_BlockError.bound O_TooLong.bound O_TooMany.bound e_TooMany_BlockError K_TooMany V_ValueError i_TooMany_ValueError i_TooMany_TooLong i_TooMany_TooMany C_rings (fun_mk (st:=s__law_refused) l13 c13 k13) (PySem.W.mg_of X G a13)
  have C__law_cell_at:Cal l.prog w K mg base 1 "_law_cell_at" 2 F__law_cell_at:=ok__law_cell_at T   (fun_mk (st:=s__law_cell_at) l14 c14 k14) (PySem.W.mg_of X G a14)
  have C_rule_back:Cal l.prog w K mg base 1 "rule_back" 1 F_rule_back:=ok_rule_back T   (fun_mk (st:=s_rule_back) l15 c15 k15) (PySem.W.mg_of X G a15)
  have C__law_whole:Cal l.prog w K mg base 1 "_law_whole" 1 F__law_whole:=ok__law_whole T   (fun_mk (st:=s__law_whole) l16 c16 k16) (PySem.W.mg_of X G a16)
  have C__law_boards:Cal l.prog w K mg base 1 "_law_boards" 3 F__law_boards:=ok__law_boards T   (fun_mk (st:=s__law_boards) l17 c17 k17) (PySem.W.mg_of X G a17)
  have C__law_step:Cal l.prog w K mg base 1 "_law_step" 4 F__law_step:=ok__law_step T   (fun_mk (st:=s__law_step) l18 c18 k18) (PySem.W.mg_of X G a18)
  have C__law_rings:Cal l.prog w K mg base 2 "_law_rings" 4 F__law_rings:=ok__law_rings T  C__law_boards C__law_step (fun_mk (st:=s__law_rings) l19 c19 k19) (PySem.W.mg_of X G a19)
  have C__law_named:Cal l.prog w K mg base 1 "_law_named" 2 F__law_named:=ok__law_named T   (fun_mk (st:=s__law_named) l20 c20 k20) (PySem.W.mg_of X G a20)
  have C__law_rule_by:Cal l.prog w K mg base 2 "_law_rule_by" 2 F__law_rule_by:=ok__law_rule_by T  C__law_named (fun_mk (st:=s__law_rule_by) l21 c21 k21) (PySem.W.mg_of X G a21)
  exact fn_law T  C__law_refused C__law_cell_at C_rings C_rule_back C__law_whole C__law_rings C__law_rule_by (fun_mk (st:=s_law) l22 c22 k22)
end K15
namespace K15
open PySem L2 Mi Sh
theorem while_step {c:M Bool}{body:MS}{n:Nat}{ρ ρ2:En}(h1:c ρ=some (true,ρ))(h2:body ρ=some (.nx ρ2)):sWhile c body (n+1) ρ=sWhile c body n ρ2:=by
  show (c ρ).bind _=_
  rw [h1,Option.bind_some,if_pos rfl,h2]
  rfl
theorem while_end {c:M Bool}{body:MS}{n:Nat}{ρ:En}(h1:c ρ=some (false,ρ)):sWhile c body (n+1) ρ=some (.nx ρ):=by
  show (c ρ).bind _=_
  rw [h1,Option.bind_some,if_neg Bool.false_ne_true]
section
variable {c w h:Nat}{rs:List Int}{a b:List (List Int)}
theorem kd (f:Bd.Fn):bdK (Bd.bd w h f)=bdD w h f:=by
  unfold bdK Bd.bd bdD bdL rwD
  rw [List.map_map]
  rfl
theorem brows:∀ x:List (List Int),rowsD (x.map fun r=>D.tup (r.map D.int))=some x
  | []=>rfl
  | r::x=>by
    have e1:rowD (.tup (r.map D.int))=some r:=intsOf_map r
    show ((rowD (.tup (r.map D.int))).bind fun q=>(rowsD (x.map fun r=>D.tup (r.map D.int))).bind fun rs=>some (q::rs))=_
    rw [e1,brows x]
    rfl
theorem brd (x:List (List Int)):brdD (bdK x)=some x:=brows x
theorem col (z:Rg.Size c w h):Bd.Col (c:Int):=by
  rcases z with ⟨rfl,_⟩ | ⟨rfl,_⟩ | ⟨rfl,_⟩ | ⟨rfl,_⟩
  · exact .inl rfl
  · exact .inl rfl
  · exact .inl rfl
  · exact .inr rfl
theorem even (z:Rg.Size c w h):∃ k l,w=2*k∧h=2*l∧0 < k∧0 < l∧2*k < 1000∧2*l < 1000:=by
  rcases z with ⟨_,rfl,rfl⟩ | ⟨_,rfl,rfl⟩ | ⟨_,rfl,rfl⟩ | ⟨_,rfl,rfl⟩
  · exact ⟨1,1,by decide⟩
  · exact ⟨2,1,by decide⟩
  · exact ⟨1,2,by decide⟩
  · exact ⟨1,1,by decide⟩
noncomputable abbrev Tw (c w h:Nat)(rs:List Int):List (List Int)→List (List Int):=Rg.lft w h (Bd.two c (Bd.rl rs) 0)
theorem pos (z:Rg.Size c w h):0 < (c:Int):=by rcases col z with e | e<;>lia
theorem step2 (z:Rg.Size c w h)(hr:rs.length=Bd.nOf c)(hb:Rg.isB c w h b):
    ∃ d,F__law_step [.val (bdK b),.fz (rs.map D.int),.val (.int c),.val (.int 0)]=some (.val d)∧F__law_step [.val d,.fz (rs.map D.int),.val (.int c),.val (.int 1)]=some (.val (bdK (Tw c w h rs b))):=by
  have hc:=col z
  have hin:=Rg.pf_in (pos z) hb
  have hp:=Bd.pf_per (w:=w) (h:=h) b
  have e:=Rg.bd_pf hb
  obtain ⟨k,l,rfl,rfl,hk,hl,hz,hz'⟩:=even z
  have s1:=law_step (m:=0) hc hr hk hl hz hz' hp hin
  have s2:=law_step (m:=1) hc hr hk hl hz hz' (Bd.stp_per (c:=c) (r:=Bd.rl rs) (s:=0) (by lia) (by lia) hp) (Bd.stp_rng hc (Bd.rl rs) 0 _)
  refine ⟨bdD (2*k) (2*l) (Bd.stp c (Bd.rl rs) 0 (Bd.pf (2*k) (2*l) b)),?_,?_⟩
  · have e2:bdK b=bdD (2*k) (2*l) (Bd.pf (2*k) (2*l) b):=by rw [←kd,e]
    rw [e2]
    exact s1
  · rw [s2]
    unfold Tw Rg.lft
    rw [kd,Bd.two_eq]
    rfl
theorem fwd2 (z:Rg.Size c w h)(hr:rs.length=Bd.nOf c)(hb:Rg.isB c w h b):F_forward [.val (bdK b),.fz (rs.map D.int),.val (.int c),.val (.int 0),.val (.int 2)]=some (.val (bdK (Tw c w h rs b))):=by
  have hc:=col z
  have hin:=Rg.pf_in (pos z) hb
  have hp:=Bd.pf_per (w:=w) (h:=h) b
  have e:=Rg.bd_pf hb
  obtain ⟨k,l,rfl,rfl,hk,hl,hz,hz'⟩:=even z
  have s1:=forward (m:=0) (n:=2) hc hr hk hl hz hz' (by lia) hp hin
  have e2:bdK b=bdD (2*k) (2*l) (Bd.pf (2*k) (2*l) b):=by rw [←kd,e]
  unfold Tw Rg.lft
  rw [kd,e2]
  exact s1
theorem eqb (ha:Rg.isB c w h a)(hb:Rg.isB c w h b):PyData.eqv (toP (bdK a)) (toP (bdK b))=decide (a=b):=by
  have ea:=Rg.bd_pf ha
  have eb:=Rg.bd_pf hb
  have q:=eqv_bd w h (Bd.pf w h a) (Bd.pf w h b)
  rw [←kd,←kd,ea,eb] at q
  rw [q]
  refine decide_eq_decide.mpr ⟨fun z=>?_,fun z y hy x hx=>by rw [z]⟩
  rw [←ea,←eb]
  exact Bd.bd_congr fun x y hx hy=>z y hy x hx
theorem okb (ha:Rg.isB c w h a):okP (toP (bdK a))=true:=by
  have ea:=Rg.bd_pf ha
  have q:=okP_bd w h (Bd.pf w h a)
  rw [←kd,ea] at q
  exact q
theorem tn {r':Int→Int}(z:Rg.Size c w h)(hi:Bd.Inv c (Bd.rl rs) r'):Rg.Tn (Rg.allX c w h) (Tw c w h rs) (Rg.lft w h (Bd.two c r' 1)):=by
  have hc:=col z
  have c0:=pos z
  obtain ⟨k,l,rfl,rfl,hk,hl,hz,hz'⟩:=even z
  exact Rg.lft_tn (fun b=>Rg.allX_mem) c0 (by lia) (by lia) (Rg.fair_two hc (by lia) (by lia) 0) fun f hf=>Bd.two_back hc hi hf 0
end
end K15
namespace K15
open PySem L2 Mi Sh
noncomputable def stA (c w h:Nat)(rs:List Int)(seen:List (List (List Int)))(lens:List Int)(b n:Option Slot):En:=
  [some (.fz (rs.map D.int)),some (.val (.int c)),some (.val (.int w)),some (.val (.int h)),some (.dct (.bd seen)),some (.own (lens.map D.int)),b,n]
section
variable {c w h:Nat}{rs:List Int}{a b:List (List Int)}{seen:List (List (List Int))}{lens:List Int}
theorem cA {n:Option Slot}:mNotB (mRd 6) 4 (stA c w h rs seen lens (some (.val (bdK b))) n)=some (!decide (b∈seen),stA c w h rs seen lens (some (.val (bdK b))) n):=by
  have e:=brd b
  unfold stA
  generalize bdK b=d at*
  walk_at "mj"
theorem bA {n:Int}(z:Rg.Size c w h)(hr:rs.length=Bd.nOf c)(hb:Rg.isB c w h b)(hs:seen.length < 1000)(hn:b∉seen):
    b0__law_rings (stA c w h rs seen lens (some (.val (bdK b))) (some (.val (.int n))))=some (.nx (stA c w h rs (seen++[b]) lens (some (.val (bdK (Tw c w h rs b)))) (some (.val (.int (n+1)))))):=by
  obtain ⟨d1,s1,s2⟩:=step2 z hr hb
  have e:=brd b
  have ea:addB seen b=seen++[b]:=if_neg hn
  have hs2:seen.length < big:=by unfold big; lia
  unfold b0__law_rings stA
  clear z hr hb hn hs
  generalize bdK (Tw c w h rs b)=d2 at*
  generalize bdK b=d at*
  generalize (c:Int)=cc at*
  generalize (w:Int)=ww at*
  generalize (h:Int)=hh at*
  unfold big at hs2
  walk_at "mj"
theorem loopA {n:Nat}{Tb:List (List Int)→List (List Int)}(z:Rg.Size c w h)(hr:rs.length=Bd.nOf c)(hT:Rg.Tn (Rg.allX c w h) (Tw c w h rs) Tb)(st:Rg.St (Rg.allX c w h) (Tw c w h rs) seen lens)(ha:a∈Rg.allX c w h)(hn:a∉seen)(hp:Rg.IsP (Tw c w h rs) a n)(e:Nat):
    ∀ j i,i+j=n→sWhile (mNotB (mRd 6) 4) b0__law_rings (j+1+e) (stA c w h rs (seen++Rg.orb (Tw c w h rs) i a) lens (some (.val (bdK (Rg.it (Tw c w h rs) i a)))) (some (.val (.int i))))=
      some (.nx (stA c w h rs (seen++Rg.orb (Tw c w h rs) n a) lens (some (.val (bdK a))) (some (.val (.int n)))))
  | 0,i,hi=>by
    have ei:i=n:=by lia
    subst ei
    rw [hp.2.1,show 0+1+e=e+1 by lia]
    refine while_end ?_
    have ho:a∈seen++Rg.orb (Tw c w h rs) i a:=List.mem_append_right _ (Rg.orb_mem.mpr ⟨0,hp.1,rfl⟩)
    rw [cA,decide_eq_true ho]
    rfl
  | j+1,i,hi=>by
    have ho:Rg.it (Tw c w h rs) i a∉seen++Rg.orb (Tw c w h rs) i a:=fun q=>by
      rcases List.mem_append.mp q with q | q
      · exact st.out hp hn (by lia) q
      · obtain ⟨k,hk,ek⟩:=Rg.orb_mem.mp q
        exact hp.2.2 (i - k) (by lia) (by lia) (hT.inj ha hk ek)
    have nd:=st.nd
    have hl:(seen++Rg.orb (Tw c w h rs) i a).length < 1000:=by
      have l1:=Rg.nodup_le st.nd st.sub
      have l2:=hT.len ha hp
      have l3:=Rg.all_len z
      rw [List.length_append,Rg.orb_len]
      lia
    have b1:=bA (lens:=lens) (n:=i) z hr (Rg.allX_mem.mp (hT.mem ha i)) hl ho
    have c1:=cA (c:=c) (w:=w) (h:=h) (rs:=rs) (seen:=seen++Rg.orb (Tw c w h rs) i a) (lens:=lens) (b:=Rg.it (Tw c w h rs) i a) (n:=some (.val (.int i)))
    rw [decide_eq_false ho] at c1
    rw [show j+1+1+e=(j+1+e)+1 by lia,while_step c1 b1]
    have ih:=loopA z hr hT st ha hn hp e j (i+1) (by lia)
    rw [Rg.orb_succ,←List.append_assoc] at ih
    exact ih
theorem lens_few (st:Rg.St (Rg.allX c w h) (Tw c w h rs) seen lens)(z:Rg.Size c w h):lens.sum≤256∧lens.length≤256:=by
  have l1:=Rg.nodup_le st.nd st.sub
  have l3:=Rg.all_len z
  have s:=st.sum
  have go:∀ l:List Int,(∀ x∈l,0 < x)→(l.length:Int)≤l.sum:=fun l=>by
    induction l with
    | nil=>simp
    | cons x r ih=>
      intro hx
      have h1:=hx x (by simp)
      have h2:=ih fun y hy=>hx y (by simp [hy])
      simp
      lia
  have:=go lens st.pos
  constructor<;>lia
theorem turnA {Tb:List (List Int)→List (List Int)}{n0:Option Slot}(z:Rg.Size c w h)(hr:rs.length=Bd.nOf c)(hT:Rg.Tn (Rg.allX c w h) (Tw c w h rs) Tb)(st:Rg.St (Rg.allX c w h) (Tw c w h rs) seen lens)(ha:a∈Rg.allX c w h):
    ∃ seen' lens' b' n',b1__law_rings (stA c w h rs seen lens (some (.val (bdK a))) n0)=some (.nx (stA c w h rs seen' lens' b' (some (.val (.int n')))))∧Rg.St (Rg.allX c w h) (Tw c w h rs) seen' lens'∧a∈seen'∧∀ x∈seen,x∈seen':=by
  by_cases hn:a∈seen
  · refine ⟨seen,lens,some (.val (bdK a)),0,?_,st,hn,fun x hx=>hx⟩
    have e:l0__law_rings (stA c w h rs seen lens (some (.val (bdK a))) (some (.val (.int 0))))=some (.nx (stA c w h rs seen lens (some (.val (bdK a))) (some (.val (.int 0))))):=by
      unfold l0__law_rings
      refine while_end (n:=299) ?_
      rw [cA,decide_eq_true hn]
      rfl
    unfold b1__law_rings
    clear st hT hr z ha hn
    unfold stA at e ⊢
    generalize bdK a=d at*
    walk_at "mj"
  · obtain ⟨n,hp⟩:=hT.per ha
    have hl:=hT.len ha hp
    have h3:=Rg.all_len z
    have lp:=loopA z hr hT st ha hn hp (299 - n) n 0 (by lia)
    have s2:=st.step hT ha hn hp
    refine ⟨seen++Rg.orb (Tw c w h rs) n a,lens++[(n:Int)],some (.val (bdK a)),n,?_,s2,List.mem_append_right _ (Rg.orb_mem.mpr ⟨0,hp.1,rfl⟩),fun x hx=>List.mem_append_left _ hx⟩
    have f3:n+1+(299 - n)=300:=by lia
    rw [f3] at lp
    have e:l0__law_rings (stA c w h rs seen lens (some (.val (bdK a))) (some (.val (.int 0))))=some (.nx (stA c w h rs (seen++Rg.orb (Tw c w h rs) n a) lens (some (.val (bdK a))) (some (.val (.int n))))):=by
      have e1:Rg.orb (Tw c w h rs) 0 a=[]:=rfl
      rw [e1,List.append_nil] at lp
      exact lp
    have hn0:(0:Int) < n:=by have:=hp.1; lia
    have hlen:(lens.map D.int).length < 1000000:=by
      have:=(lens_few st z).2
      rw [List.length_map]
      lia
    unfold b1__law_rings
    clear lp s2 st hT hr z ha hn hp hl h3 f3
    generalize seen++Rg.orb (Tw c w h rs) n a=seen' at*
    unfold stA at e ⊢
    rw [List.map_append]
    generalize bdK a=d at*
    generalize lens.map D.int=ld at*
    generalize (n:Int)=nn at*
    walk_at "mj"
theorem ringsA {Tb:List (List Int)→List (List Int)}(z:Rg.Size c w h)(hr:rs.length=Bd.nOf c)(hT:Rg.Tn (Rg.allX c w h) (Tw c w h rs) Tb):
    ∃ seen lens,Rg.St (Rg.allX c w h) (Tw c w h rs) seen lens∧(∀ b∈Rg.allX c w h,b∈seen)∧F__law_rings [.fz (rs.map D.int),.val (.int c),.val (.int w),.val (.int h)]=some (.own ((Rg.resL lens).map pairD)):=by
  have lb:=Rg.law_boards z
  have lp:=forL_ex (tg:=setN 6) (body:=b1__law_rings) (its:=((Rg.lawX c w h).map bdK).map Slot.val)
    (fun i ρ=>∃ seen lens b n,ρ=stA c w h rs seen lens b n∧(n=none∨∃ k:Int,n=some (.val (.int k)))∧Rg.St (Rg.allX c w h) (Tw c w h rs) seen lens∧∀ j x,j < i→(Rg.lawX c w h)[j]?=some x→x∈seen)
    (ρ:=stA c w h rs [] [] none none) 0 ⟨[],[],none,none,rfl,.inl rfl,Rg.St.nil,fun j x hj=>absurd hj (by lia)⟩ (fun i s ρ hs hp=>?_)
  · obtain ⟨ρ',e,seen,lens,b,n,rfl,hn,st,all⟩:=lp
    rw [Nat.zero_add,List.length_map,List.length_map] at all
    refine ⟨seen,lens,st,fun x hx=>?_,?_⟩
    · obtain ⟨j,hj⟩:=List.mem_iff_getElem?.mp ((Rg.law_all z x).mpr hx)
      exact all j x (List.getElem?_eq_some_iff.mp hj).1 hj
    · have few:=lens_few st z
      have f64:=Rg.srt_few st.pos few.1
      have e2:l1__law_rings (stA c w h rs [] [] none none)=some (.nx (stA c w h rs seen lens b n)):=by
        unfold l1__law_rings
        have e3:mItS (mOpF (ofLen 3 F__law_boards) (mCons (mRd 1) (mCons (mRd 2) (mCons (mRd 3) mNil)))) (stA c w h rs [] [] none none)=some (((Rg.lawX c w h).map bdK).map Slot.val,stA c w h rs [] [] none none):=by
          unfold stA
          clear e few f64 st all hn hT hr
          generalize (Rg.lawX c w h).map bdK=l at*
          generalize (c:Int)=cc at*
          generalize (w:Int)=ww at*
          generalize (h:Int)=hh at*
          walk_at "mi"
        show ((mItS _ _).bind _)=_
        rw [e3]
        exact e
      have e4:c0__law_rings (stA c w h rs seen lens b n)=some (.of (.own ((Rg.resL lens).map pairD)),stA c w h rs seen lens b n):=by
        unfold c0__law_rings mComp
        have e5:mItS (mOpF gSrt (mCons (mRd 5) mNil)) (stA c w h rs seen lens b n)=some (((srtS lens).map D.int).map Slot.val,stA c w h rs seen lens b n):=by
          have e6:=intsOf_map lens
          have e7:lens.length < 4000:=by lia
          unfold stA
          clear e e2 few st all hn hT hr lb
          generalize lens.map D.int=ld at*
          walk_at "mi"
        rw [e5]
        obtain ⟨ρe,q1,q2⟩:=compL_setN (k:=7) (elt:=mOpF gTup' (mCons (mRd 7) (mCons (mMeth 5 gCount (mCons (mRd 7) mNil)) mNil))) (fun s=>match s with | .val (.int x)=>pairD (x,((lens.count x:Nat):Int)) | _=>.non)
          (its:=((srtS lens).map D.int).map Slot.val) (ρ:=stA c w h rs seen lens b none) (by simp [stA]) (fun s hs=>by
            obtain ⟨d,hd,rfl⟩:=List.mem_map.mp hs
            obtain ⟨x,_,rfl⟩:=List.mem_map.mp hd
            have e6:=intsOf_map lens
            unfold stA pairD
            clear e e2 few st all hn hT hr lb e5 hs hd
            generalize lens.map D.int=ld at*
            generalize ((lens.count x:Nat):Int)=cc at*
            simp only [List.set_cons_succ,List.set_cons_zero]
            walk_at "mi")
        have hl:(((srtS lens).map D.int).map Slot.val).length < big:=by
          rw [List.length_map,List.length_map]
          unfold big
          lia
        have hpl:[7].all (plainAt (stA c w h rs seen lens b n))=true:=by
          rcases hn with rfl | ⟨k,rfl⟩<;>rfl
        rw [Option.bind_some]
        show (if (((srtS lens).map D.int).map Slot.val).length < big∧[7].all (plainAt (stA c w h rs seen lens b n))=true then _ else none)=_
        rw [if_pos ⟨hl,hpl⟩]
        have hm:maskE [7] (stA c w h rs seen lens b n)=stA c w h rs seen lens b none:=rfl
        rw [hm,q1,Option.bind_some]
        have hno:[7].all (noOwn ρe)=true:=by
          rcases q2 with rfl | ⟨s,hs,rfl⟩
          · rfl
          · obtain ⟨d,hd,rfl⟩:=List.mem_map.mp hs
            rfl
        show (if [7].all (noOwn ρe)=true then _ else none)=_
        rw [if_pos hno]
        have hu:unmask [7] (stA c w h rs seen lens b n) ρe=stA c w h rs seen lens b n:=by
          rcases q2 with rfl | ⟨s,hs,rfl⟩
          · rfl
          · rfl
        rw [hu]
        unfold Rg.resL
        rw [List.map_map,List.map_map,List.map_map]
        rfl
      have e0:stA c w h rs [] [] none none=[some (.fz (rs.map D.int)),some (.val (.int c)),some (.val (.int w)),some (.val (.int h)),some (.dct (.bd [])),some (.own []),none,none]:=rfl
      unfold F__law_rings m__law_rings
      rw [e0] at e2
      clear e few f64 st all hT hr lb
      generalize (Rg.resL lens).map pairD=res at*
      generalize stA c w h rs seen lens b n=ρ1 at*
      generalize (c:Int)=cc at*
      generalize (w:Int)=ww at*
      generalize (h:Int)=hh at*
      walk_at "mi"
  · obtain ⟨seen,lens,b,n,rfl,hn,st,all⟩:=hp
    rw [Nat.zero_add] at all ⊢
    rw [List.getElem?_map,List.getElem?_map] at hs
    cases ex:(Rg.lawX c w h)[i]? with
    | none=>rw [ex] at hs; cases hs
    | some x=>
      rw [ex] at hs
      cases hs
      have hx:x∈Rg.allX c w h:=(Rg.law_all z x).mp (List.mem_iff_getElem?.mpr ⟨i,ex⟩)
      obtain ⟨seen',lens',b',n',t1,t2,t3,t4⟩:=turnA (n0:=n) z hr hT st hx
      refine ⟨stA c w h rs seen lens (some (.val (bdK x))) n,_,rfl,t1,seen',lens',b',_,rfl,.inr ⟨n',rfl⟩,t2,fun j y hj hy=>?_⟩
      by_cases q:j < i
      · exact t4 y (all j y q hy)
      · have:j=i:=by lia
        subst this
        rw [ex] at hy
        cases hy
        exact t3
end
end K15
namespace K15
open PySem L2 Mi Sh
section
variable {c w h:Nat}{rs:List Int}{a b:List (List Int)}{seen:List (List (List Int))}{lens:List Int}{ps:List (Int×Int)}
noncomputable def stR (c:Nat)(rs:List Int)(a:List (List Int))(res:List D)(b:List (List Int)):En:=
  [some (.val (bdK a)),some (.fz (rs.map D.int)),some (.val (.int c)),some (.own res),some (.val (bdK b))]
noncomputable abbrev cnR:M Bool:=mTru (mOpF (gEq true) (mCons (mRd 4) (mCons (mRd 0) mNil)))
theorem cR {res:List D}(ha:Rg.isB c w h a)(hb:Rg.isB c w h b):cnR (stR c rs a res b)=some (!decide (b=a),stR c rs a res b):=by
  have e:=eqb hb ha
  have o1:=okP_of (okb ha)
  have o2:=okP_of (okb hb)
  obtain ⟨o3,o4⟩:=o1
  obtain ⟨o5,o6⟩:=o2
  unfold cnR stR
  clear ha hb
  generalize decide (b=a)=t at*
  generalize bdK a=d1 at*
  generalize bdK b=d2 at*
  walk_at "mj"
theorem bR {res:List D}(z:Rg.Size c w h)(hr:rs.length=Bd.nOf c)(hb:Rg.isB c w h b)(hl:res.length < 1000):b0_ring_of (stR c rs a res b)=some (.nx (stR c rs a (res++[bdK b]) (Tw c w h rs b))):=by
  have s:=fwd2 z hr hb
  have hl2:res.length < 1000000:=by lia
  unfold b0_ring_of stR
  clear z hr hb hl
  generalize bdK (Tw c w h rs b)=d2 at*
  generalize bdK a=d1 at*
  generalize bdK b=d at*
  generalize (c:Int)=cc at*
  walk_at "mj"
theorem loopR {n:Nat}{Tb:List (List Int)→List (List Int)}(z:Rg.Size c w h)(hr:rs.length=Bd.nOf c)(hT:Rg.Tn (Rg.allX c w h) (Tw c w h rs) Tb)(ha:a∈Rg.allX c w h)(hp:Rg.IsP (Tw c w h rs) a n)(e:Nat):
    ∀ j i,0 < i→i+j=n→sWhile cnR b0_ring_of (j+1+e) (stR c rs a ((Rg.orb (Tw c w h rs) i a).map bdK) (Rg.it (Tw c w h rs) i a))=some (.nx (stR c rs a ((Rg.orb (Tw c w h rs) n a).map bdK) a))
  | 0,i,h0,hi=>by
    have ei:i=n:=by lia
    subst ei
    have hB:=Rg.allX_mem.mp ha
    rw [hp.2.1,show 0+1+e=e+1 by lia]
    refine while_end ?_
    rw [cR hB hB,decide_eq_true rfl]
    rfl
  | j+1,i,h0,hi=>by
    have hB:=Rg.allX_mem.mp ha
    have hBi:=Rg.allX_mem.mp (hT.mem ha i)
    have ho:¬ Rg.it (Tw c w h rs) i a=a:=hp.2.2 i h0 (by lia)
    have hl:((Rg.orb (Tw c w h rs) i a).map bdK).length < 1000:=by
      have l2:=hT.len ha hp
      have l3:=Rg.all_len z
      rw [List.length_map,Rg.orb_len]
      lia
    have b1:=bR (a:=a) z hr hBi hl
    have c1:=cR (rs:=rs) (res:=(Rg.orb (Tw c w h rs) i a).map bdK) hB hBi
    rw [decide_eq_false ho] at c1
    rw [show j+1+1+e=(j+1+e)+1 by lia,while_step c1 b1]
    have ih:=loopR z hr hT ha hp e j (i+1) (by lia) (by lia)
    rw [Rg.orb_succ,List.map_append] at ih
    exact ih
theorem ring_of {n:Nat}{Tb:List (List Int)→List (List Int)}(z:Rg.Size c w h)(hr:rs.length=Bd.nOf c)(hT:Rg.Tn (Rg.allX c w h) (Tw c w h rs) Tb)(ha:a∈Rg.allX c w h)(hp:Rg.IsP (Tw c w h rs) a n):
    F_ring_of [.val (bdK a),.fz (rs.map D.int),.val (.int c)]=some (.own ((Rg.orb (Tw c w h rs) n a).map bdK)):=by
  have l2:=hT.len ha hp
  have l3:=Rg.all_len z
  have h0:=hp.1
  have lp:=loopR z hr hT ha hp (300 - n) (n - 1) 1 (by lia) (by lia)
  rw [show n - 1+1+(300 - n)=300 by lia] at lp
  have s:=fwd2 z hr (Rg.allX_mem.mp ha)
  have e1:Rg.it (Tw c w h rs) 1 a=Tw c w h rs a:=rfl
  have e2:(Rg.orb (Tw c w h rs) 1 a).map bdK=[bdK a]:=rfl
  rw [e1,e2] at lp
  change l0_ring_of _=_ at lp
  unfold F_ring_of m_ring_of
  unfold stR at lp
  clear hp h0 l2 l3 hT hr z e1 e2 ha
  generalize bdK (Tw c w h rs a)=d2 at*
  generalize bdK a=d1 at*
  generalize (Rg.orb (Tw c w h rs) n a).map bdK=res at*
  generalize (c:Int)=cc at*
  walk_at "mj"
noncomputable def stB (c w h:Nat)(rs:List Int)(seen:List (List (List Int)))(ps:List (Int×Int))(b r m:Option Slot):En:=
  [some (.fz (rs.map D.int)),some (.val (.int c)),some (.val (.int w)),some (.val (.int h)),some (.dct (.bd seen)),some (.dct (.nn ps)),b,r,m]
theorem cB {r m:Option Slot}:mNotB (mRd 6) 4 (stB c w h rs seen ps (some (.val (bdK b))) r m)=some (!decide (b∈seen),stB c w h rs seen ps (some (.val (bdK b))) r m):=by
  have e:=brd b
  unfold stB
  generalize bdK b=d at*
  walk_at "mj"
theorem bB {bb r:Option Slot}(hs:seen.length < 1000)(hn:b∉seen):
    xb0_rings (stB c w h rs seen ps bb r (some (.val (bdK b))))=some (.nx (stB c w h rs (seen++[b]) ps bb r (some (.val (bdK b))))):=by
  have e:=brd b
  have ea:addB seen b=seen++[b]:=if_neg hn
  have hs2:seen.length < 1000000:=by lia
  unfold xb0_rings stB
  clear hn hs
  generalize bdK b=d at*
  walk_at "mj"
theorem innerB {n:Nat}{Tb:List (List Int)→List (List Int)}{bb m:Option Slot}(z:Rg.Size c w h)(hT:Rg.Tn (Rg.allX c w h) (Tw c w h rs) Tb)(st:Rg.St (Rg.allX c w h) (Tw c w h rs) seen lens)(ha:a∈Rg.allX c w h)(hn:a∉seen)(hp:Rg.IsP (Tw c w h rs) a n):
    ∃ m',xl0_rings (stB c w h rs seen ps bb (some (.own ((Rg.orb (Tw c w h rs) n a).map bdK))) m)=some (.nx (stB c w h rs (seen++Rg.orb (Tw c w h rs) n a) ps bb (some (.fz ((Rg.orb (Tw c w h rs) n a).map bdK))) m')):=by
  have lp:=forL_ex (tg:=setN 8) (body:=xb0_rings) (its:=((Rg.orb (Tw c w h rs) n a).map bdK).map Slot.val)
    (fun i ρ=>∃ m',ρ=stB c w h rs (seen++Rg.orb (Tw c w h rs) i a) ps bb (some (.fz ((Rg.orb (Tw c w h rs) n a).map bdK))) m')
    (ρ:=stB c w h rs seen ps bb (some (.fz ((Rg.orb (Tw c w h rs) n a).map bdK))) m) 0 ⟨m,by rw [show Rg.orb (Tw c w h rs) 0 a=[] from rfl,List.append_nil]⟩ (fun i s ρ hs hP=>?_)
  · obtain ⟨ρ',e,m',rfl⟩:=lp
    rw [Nat.zero_add,List.length_map,List.length_map,Rg.orb_len] at e
    exact ⟨m',e⟩
  · obtain ⟨m',rfl⟩:=hP
    rw [Nat.zero_add] at*
    rw [List.getElem?_map,List.getElem?_map] at hs
    have hi:i < n:=by
      apply Classical.byContradiction
      intro q
      rw [List.getElem?_eq_none (by rw [Rg.orb_len]; lia)] at hs
      cases hs
    have ei:(Rg.orb (Tw c w h rs) n a)[i]?=some (Rg.it (Tw c w h rs) i a):=by simp [Rg.orb,hi]
    rw [ei] at hs
    cases hs
    have ho:Rg.it (Tw c w h rs) i a∉seen++Rg.orb (Tw c w h rs) i a:=fun q=>by
      rcases List.mem_append.mp q with q | q
      · exact st.out hp hn hi q
      · obtain ⟨k,hk,ek⟩:=Rg.orb_mem.mp q
        exact hp.2.2 (i - k) (by lia) (by lia) (hT.inj ha hk ek)
    have hl:(seen++Rg.orb (Tw c w h rs) i a).length < 1000:=by
      have l1:=Rg.nodup_le st.nd st.sub
      have l2:=hT.len ha hp
      have l3:=Rg.all_len z
      rw [List.length_append,Rg.orb_len]
      lia
    refine ⟨stB c w h rs (seen++Rg.orb (Tw c w h rs) i a) ps bb (some (.fz ((Rg.orb (Tw c w h rs) n a).map bdK))) (some (.val (bdK (Rg.it (Tw c w h rs) i a)))),_,rfl,bB hl ho,some (.val (bdK (Rg.it (Tw c w h rs) i a))),?_⟩
    rw [Rg.orb_succ,List.append_assoc]
theorem turnB {Tb:List (List Int)→List (List Int)}{r m:Option Slot}(z:Rg.Size c w h)(hr:rs.length=Bd.nOf c)(hT:Rg.Tn (Rg.allX c w h) (Tw c w h rs) Tb)(st:Rg.St (Rg.allX c w h) (Tw c w h rs) seen lens)(cn:Rg.CN ps lens)(ha:a∈Rg.allX c w h):
    ∃ seen' lens' ps' r' m',xb1_rings (stB c w h rs seen ps (some (.val (bdK a))) r m)=some (.nx (stB c w h rs seen' ps' (some (.val (bdK a))) r' m'))∧Rg.St (Rg.allX c w h) (Tw c w h rs) seen' lens'∧Rg.CN ps' lens'∧a∈seen'∧∀ x∈seen,x∈seen':=by
  have c1:=cB (c:=c) (w:=w) (h:=h) (rs:=rs) (seen:=seen) (ps:=ps) (b:=a) (r:=r) (m:=m)
  by_cases hn:a∈seen
  · refine ⟨seen,lens,ps,r,m,?_,st,cn,hn,fun x hx=>hx⟩
    rw [decide_eq_true hn] at c1
    unfold xb1_rings
    show ((mNotB (mRd 6) 4 _).bind _)=_
    rw [c1]
    rfl
  · obtain ⟨n,hp⟩:=hT.per ha
    have rg:=ring_of z hr hT ha hp
    obtain ⟨m',ib⟩:=innerB (ps:=ps) (bb:=some (.val (bdK a))) (m:=m) z hT st ha hn hp
    have s2:=st.step hT ha hn hp
    refine ⟨seen++Rg.orb (Tw c w h rs) n a,lens++[(n:Int)],putN ps n ((getN ps n).getD 0+1),some (.fz ((Rg.orb (Tw c w h rs) n a).map bdK)),m',?_,s2,cn.put n,List.mem_append_right _ (Rg.orb_mem.mpr ⟨0,hp.1,rfl⟩),fun x hx=>List.mem_append_left _ hx⟩
    rw [decide_eq_false hn] at c1
    have hl:((Rg.orb (Tw c w h rs) n a).map bdK).length=n:=by rw [List.length_map,Rg.orb_len]
    have hpl:ps.length < 1000000:=by
      have f:=lens_few st z
      have f64:=Rg.srt_few st.pos f.1
      rw [cn.len]
      lia
    unfold xb1_rings
    show ((mNotB (mRd 6) 4 _).bind _)=_
    rw [c1,Option.bind_some]
    show (sSeq _ _) _=_
    have hn1:n≤256:=Nat.le_trans (hT.len ha hp) (Rg.all_len z)
    unfold stB at ib ⊢
    clear c1 s2 cn st hT hr z ha hn hp
    generalize (Rg.orb (Tw c w h rs) n a).map bdK=ring at*
    generalize seen++Rg.orb (Tw c w h rs) n a=seen' at*
    generalize bdK a=d at*
    generalize (c:Int)=cc at*
    subst hl
    generalize hg:(getN ps (ring.length:Int)).getD 0=gg at*
    walk_at "mj"
theorem ringsB {Tb:List (List Int)→List (List Int)}(z:Rg.Size c w h)(hr:rs.length=Bd.nOf c)(hT:Rg.Tn (Rg.allX c w h) (Tw c w h rs) Tb):
    ∃ seen lens,Rg.St (Rg.allX c w h) (Tw c w h rs) seen lens∧(∀ b∈Rg.allX c w h,b∈seen)∧FX_rings [.fz (rs.map D.int),.val (.int c),.val (.int w),.val (.int h)]=some (.v (.own ((Rg.resL lens).map pairD))):=by
  have lb:=Rg.all_boards z
  have rf:FX_refuse_too_many [.val (.int c),.val (.int ((w:Int)*(h:Int)))]=some (.v (.val .non)):=by
    rcases z with ⟨rfl,rfl,rfl⟩ | ⟨rfl,rfl,rfl⟩ | ⟨rfl,rfl,rfl⟩ | ⟨rfl,rfl,rfl⟩
    · kernel_rfl
    · kernel_rfl
    · kernel_rfl
    · kernel_rfl
  have hwh:-18446744073709551616 < (w:Int)∧(w:Int) < 18446744073709551616:=by
    rcases z with ⟨rfl,rfl,rfl⟩ | ⟨rfl,rfl,rfl⟩ | ⟨rfl,rfl,rfl⟩ | ⟨rfl,rfl,rfl⟩<;>lia
  have lp:=forL_ex (tg:=setN 6) (body:=xb1_rings) (its:=((Rg.allX c w h).map bdK).map Slot.val)
    (fun i ρ=>∃ seen lens ps b r m,ρ=stB c w h rs seen ps b r m∧Rg.St (Rg.allX c w h) (Tw c w h rs) seen lens∧Rg.CN ps lens∧∀ j x,j < i→(Rg.allX c w h)[j]?=some x→x∈seen)
    (ρ:=stB c w h rs [] [] none none none) 0 ⟨[],[],[],none,none,none,rfl,Rg.St.nil,Rg.CN.nil,fun j x hj=>absurd hj (by lia)⟩ (fun i s ρ hs hp=>?_)
  · obtain ⟨ρ',e,seen,lens,ps,b,r,m,rfl,st,cn,all⟩:=lp
    rw [Nat.zero_add,List.length_map,List.length_map] at all
    refine ⟨seen,lens,st,fun x hx=>?_,?_⟩
    · obtain ⟨j,hj⟩:=List.mem_iff_getElem?.mp hx
      exact all j x (List.getElem?_eq_some_iff.mp hj).1 hj
    · have few:=lens_few st z
      have f64:=Rg.srt_few st.pos few.1
      have e2:xl1_rings (stB c w h rs [] [] none none none)=some (.nx (stB c w h rs seen ps b r m)):=by
        unfold xl1_rings
        have e3:mItS (mOpF (ofLen 3 F_all_boards) (mCons (mRd 1) (mCons (mRd 2) (mCons (mRd 3) mNil)))) (stB c w h rs [] [] none none none)=some (((Rg.allX c w h).map bdK).map Slot.val,stB c w h rs [] [] none none none):=by
          unfold stB
          clear e few f64 st all cn hT hr rf hwh
          generalize (Rg.allX c w h).map bdK=l at*
          generalize (c:Int)=cc at*
          generalize (w:Int)=ww at*
          generalize (h:Int)=hh at*
          walk_at "mi"
        show ((mItS _ _).bind _)=_
        rw [e3]
        exact e
      have e4:mItems 5 (stB c w h rs seen ps b r m)=some (.of (.own ((Rg.resL lens).map pairD)),stB c w h rs seen ps b r m):=by
        rw [←cn.res]
        show (if ps.length < 64 then _ else none)=_
        rw [if_pos (by rw [cn.len]; exact f64)]
      have e0:stB c w h rs [] [] none none none=[some (.fz (rs.map D.int)),some (.val (.int c)),some (.val (.int w)),some (.val (.int h)),some (.dct (.bd [])),some (.dct (.nn [])),none,none,none]:=rfl
      rw [e0] at e2
      unfold FX_rings mX_rings
      clear e few f64 st all cn hT hr lb
      generalize (Rg.resL lens).map pairD=res at*
      generalize stB c w h rs seen ps b r m=ρ1 at*
      generalize (c:Int)=cc at*
      generalize (w:Int)=ww at*
      generalize (h:Int)=hh at*
      have e5:(sRet (mItems 5)) ρ1=some (.rt (.own res)):=by
        unfold sRet
        rw [e4]
        rfl
      clear e4
      generalize sRet (mItems 5)=fin at*
      walk_at "mi"
  · obtain ⟨seen,lens,ps,b,r,m,rfl,st,cn,all⟩:=hp
    rw [Nat.zero_add] at all ⊢
    rw [List.getElem?_map,List.getElem?_map] at hs
    cases ex:(Rg.allX c w h)[i]? with
    | none=>rw [ex] at hs; cases hs
    | some x=>
      rw [ex] at hs
      cases hs
      have hx:x∈Rg.allX c w h:=List.mem_iff_getElem?.mpr ⟨i,ex⟩
      obtain ⟨seen',lens',ps',r',m',t1,t2,t2',t3,t4⟩:=turnB (r:=r) (m:=m) z hr hT st cn hx
      refine ⟨stB c w h rs seen ps (some (.val (bdK x))) r m,_,rfl,t1,seen',lens',ps',_,r',m',rfl,t2,t2',fun j y hj hy=>?_⟩
      by_cases q:j < i
      · exact t4 y (all j y q hy)
      · have:j=i:=by lia
        subst this
        rw [ex] at hy
        cases hy
        exact t3
end
end K15
namespace K15
open PySem L2 Mi Sh
section
variable {c:Nat}{rs:List Int}
theorem refB {n m:Int}{x:Option Slot}(hc:(c:Int)=2∨(c:Int)=3):xb0_refuse_too_many [some (.val (.int c)),some (.val (.int n)),some (.val (.int m)),x]=
    if 300 < m*c then some (.ex "TooMany") else some (.o (.nx [some (.val (.int c)),some (.val (.int n)),some (.val (.int (m*c))),x])):=by
  have h1:-18446744073709551616 < (c:Int)∧(c:Int) < 18446744073709551616:=by rcases hc with e | e<;>lia
  unfold xb0_refuse_too_many
  clear hc
  generalize (c:Int)=cc at*
  by_cases h:300 < m*cc
  · walk_at "mj"
  · walk_at "mj"
theorem refL (hc:(c:Int)=2∨(c:Int)=3){n:Int}:∀ (its:List Slot) (m:Nat) (x:Option Slot),m≤300→300 < m*c ^ its.length→xforL (setN 3) xb0_refuse_too_many its [some (.val (.int c)),some (.val (.int n)),some (.val (.int m)),x]=some (.ex "TooMany")
  | [],m,x,h1,h2=>by
    simp at h2
    lia
  | s::r,m,x,h1,h2=>by
    have b:=refB (n:=n) (m:=m) (x:=some s) hc
    unfold xforL
    have e:setN 3 s [some (.val (.int c)),some (.val (.int n)),some (.val (.int m)),x]=some [some (.val (.int c)),some (.val (.int n)),some (.val (.int m)),some s]:=rfl
    rw [e,Option.bind_some,b]
    by_cases h:300 < (m:Int)*c
    · rw [if_pos h]
      rfl
    · rw [if_neg h,Option.bind_some]
      have h3:m*c≤300:=by
        have:((m*c:Nat):Int)=(m:Int)*c:=by push_cast; rfl
        lia
      have ih:=refL hc (n:=n) r (m*c) (some s) h3 (by
        rw [List.length_cons,Nat.pow_succ,Nat.mul_comm (c ^ r.length),←Nat.mul_assoc] at h2
        exact h2)
      have e2:((m*c:Nat):Int)=(m:Int)*c:=by push_cast; rfl
      rw [e2] at ih
      exact ih
theorem refuse {n:Int}(hc:(c:Int)=2∨(c:Int)=3)(h0:9≤n∨c=3∧8≤n)(h1:n < 10000):FX_refuse_too_many [.val (.int c),.val (.int n)]=some (.x "TooMany"):=by
  have hl:300 < 1*c ^ (rangeD 0 n.toNat).length:=by
    have e:(rangeD 0 n.toNat).length=n.toNat:=by simp [rangeD]
    rw [e,Nat.one_mul]
    rcases h0 with h | ⟨rfl,h⟩
    · have h2:2 ^ 9≤c ^ 9:=Nat.pow_le_pow_left (by lia) 9
      have h3:c ^ 9≤c ^ n.toNat:=Nat.pow_le_pow_right (by lia) (by lia)
      lia
    · have h3:3 ^ 8≤3 ^ n.toNat:=Nat.pow_le_pow_right (by lia) (by lia)
      lia
  have lp:=refL (n:=n) hc (rangeD 0 n.toNat) 1 none (by lia) hl
  have e1:((1:Nat):Int)=1:=rfl
  rw [e1] at lp
  have hr:-4611686018427387904≤n∧n < 4611686018427387904:=by lia
  have e2:xl0_refuse_too_many [some (.val (.int c)),some (.val (.int n)),some (.val (.int 1)),none]=some (.ex "TooMany"):=by
    unfold xl0_refuse_too_many
    have e3:mRng1 (mCons (mRd 1) mNil) [some (.val (.int c)),some (.val (.int n)),some (.val (.int 1)),none]=some (rangeD 0 n.toNat,[some (.val (.int c)),some (.val (.int n)),some (.val (.int 1)),none]):=by
      show (if -(2 ^ 62)≤n∧n < 2 ^ 62 then _ else none)=_
      rw [if_pos (by lia)]
    show ((mRng1 _ _).bind _)=_
    rw [e3]
    exact lp
  unfold FX_refuse_too_many mX_refuse_too_many
  clear lp hl h0 h1 hc e1
  generalize (c:Int)=cc at*
  walk_at "mj"
theorem refused {w h:Int}(hc:(c:Int)=2∨(c:Int)=3)(hw:0 < w∧w < 100)(hh:0 < h∧h < 100)(h0:9≤w*h∨c=3∧8≤w*h):F__law_refused [.fz (rs.map D.int),.val (.int c),.val (.int w),.val (.int h)]=some (.val (.bl true)):=by
  have h1:w*h < 10000:=by
    have a1:w*h≤99*h:=Int.mul_le_mul_of_nonneg_right (by lia) (by lia)
    lia
  have rf:=refuse hc h0 h1
  have hwh:-18446744073709551616 < w∧w < 18446744073709551616:=by lia
  have fx:FX_rings [.fz (rs.map D.int),.val (.int c),.val (.int w),.val (.int h)]=some (.x "TooMany"):=by
    unfold FX_rings mX_rings
    clear h0 h1 hw hh hc
    generalize (c:Int)=cc at*
    walk_at "mj"
  unfold F__law_refused m__law_refused
  clear rf hwh h1 h0 hw hh hc
  generalize (c:Int)=cc at*
  walk_at "mj"
end
theorem eqv_pairs:∀ l:List (Int×Int),PyData.eqvAll (toPs (l.map pairD)) (toPs (l.map pairD))=true:=fun l=>by
  rw [toPs_map,eqvAll_map]
  simp [pairD,toP,toPs,PyData.eqv,PyData.eqvAll]
theorem ok_pair (q:Int×Int):(toP (pairD q)).canLay0=true∧(toP (pairD q)).depth≤1:=by
  unfold pairD
  simp [toP,toPs,PyData.canLay0,PyData.depth,PyData.canLayAll0,PyData.depthAll]
theorem ok_pairs (l:List (Int×Int)):(PyData.list (toPs (l.map pairD))).canLay0=true∧(PyData.list (toPs (l.map pairD))).depth≤60:=by
  rw [toPs_map,PyData.canLay0,PyData.depth]
  refine ⟨lay_map _ _ fun a _=>(ok_pair _).1,?_⟩
  have:=depth_map l (fun q=>toP (pairD q)) 1 fun a _=>(ok_pair a).2
  exact Nat.le_trans (Nat.succ_le_succ this) (by lia)
end K15
namespace K15
open PySem L2 Mi Sh
theorem at0 {α:Type}{a:α}{l:List α}:atI (a::l) 0=some a:=by
  unfold atI ixN
  simp
theorem at1 {α:Type}{a b:α}{l:List α}:atI (a::b::l) 1=some b:=by
  have e:(a::b::l).length=l.length+2:=rfl
  unfold atI
  rw [ixN_int (k:=1) (by lia) (by lia)]
  rfl
theorem at2 {α:Type}{a b d:α}{l:List α}:atI (a::b::d::l) 2=some d:=by
  have e:(a::b::d::l).length=l.length+3:=rfl
  unfold atI
  rw [ixN_int (k:=2) (by lia) (by lia)]
  rfl
section
variable {c w h:Nat}{rs:List Int}
theorem three (z:Rg.Size c w h)(hr:RuleOf (Bd.nOf c) rs):∃ ps:List (Int×Int),F__law_rings [.fz (rs.map D.int),.val (.int c),.val (.int w),.val (.int h)]=some (.own (ps.map pairD))∧
    FX_rings [.fz (rs.map D.int),.val (.int c),.val (.int w),.val (.int h)]=some (.v (.own (ps.map pairD)))∧
    FX_rings [.fz ((Bd.bkl rs (Bd.nOf c)).map D.int),.val (.int c),.val (.int w),.val (.int h)]=some (.v (.own (ps.map pairD))):=by
  have hc:=col z
  have c0:=pos z
  have i1:=Bd.inv_of hc hr
  have hr2:RuleOf (Bd.nOf c) (Bd.bkl rs (Bd.nOf c)):=Bd.bkl_perm hr
  have t1:=tn z i1
  have t2:=tn z i1.symm
  obtain ⟨s1,l1,st1,a1,e1⟩:=ringsA z hr.len t1
  obtain ⟨s2,l2,st2,a2,e2⟩:=ringsB z hr.len t1
  obtain ⟨s3,l3,st3,a3,e3⟩:=ringsB z hr2.len t2
  have q1:=Rg.resL_eq (Rg.St.eq st1 st2 a1 a2 fun x=>Iff.rfl)
  obtain ⟨k,l,rfl,rfl,hk,hl,hz,hz'⟩:=even z
  have hS:=Rg.lft_tn (B:=Rg.allX c (2*k) (2*l)) (fun b=>Rg.allX_mem) c0 (by lia) (by lia) (Rg.fair_stp (r:=Bd.rl rs) hc (by lia) (by lia) 0) fun f hf=>Bd.stp_back hc i1 hf 0
  have cj:=Rg.lft_conj (w:=2*k) (h:=2*l) (B:=Rg.allX c (2*k) (2*l)) (fun b=>Rg.allX_mem) hc (by lia) (by lia) (by lia) (by lia) i1
  have q2:=Rg.resL_eq (Rg.St.conj t1 t2 st1 st3 a1 a3 hS cj)
  rw [←q1] at e2
  rw [←q2] at e3
  exact ⟨Rg.resL l1,e1,e2,e3⟩
theorem loop {s0 s1 s2 s3 s4:Option Slot}(ps:List (Int×Int)):∃ p,l0_law [s0,s1,s2,s3,s4,some (.own (ps.map pairD)),none,none,none]=some (.nx [s0,s1,s2,s3,s4,some (.fz (ps.map pairD)),p,none,none]):=by
  have lp:=forL_ex (tg:=setN 6) (body:=b0_law) (its:=(ps.map pairD).map Slot.val)
    (fun i ρ=>∃ p,ρ=[s0,s1,s2,s3,s4,some (.fz (ps.map pairD)),p,none,none])
    (ρ:=[s0,s1,s2,s3,s4,some (.fz (ps.map pairD)),none,none,none]) 0 ⟨none,rfl⟩ (fun i s ρ hs hp=>?_)
  · obtain ⟨ρ',e,p,rfl⟩:=lp
    refine ⟨p,?_⟩
    unfold l0_law
    exact e
  · obtain ⟨p,rfl⟩:=hp
    have hm:=List.mem_of_getElem? hs
    obtain ⟨d,hd,rfl⟩:=List.mem_map.mp hm
    obtain ⟨q,_,rfl⟩:=List.mem_map.mp hd
    refine ⟨[s0,s1,s2,s3,s4,some (.fz (ps.map pairD)),some (.val (pairD q)),none,none],_,rfl,?_,some (.val (pairD q)),rfl⟩
    have w1:=whole q.1
    have w2:=whole q.2
    have t0:=@at0 D
    have t1:=@at1 D
    unfold b0_law
    clear hs hm hd
    generalize ps.map pairD=pl at*
    unfold pairD
    generalize q.1=q1 at*
    generalize q.2=q2 at*
    walk_at "mj"
noncomputable def pick:MS:=sSet 3 (mOpF gIx (mCons (mOpF gLst' (mPrs [(2,2),(4,2),(2,4)])) (mCons (mOpF gMod (mCons (mOpF (ofLen 2 F__law_cell_at) (mCons (mRd 0) (mCons (mC (.int 2)) mNil))) (mCons (mC (.int 3)) mNil))) mNil)))
noncomputable def pick3:MS:=sIf (mTru (mOpF (gEq false) (mCons (mRd 1) (mCons (mC (.int 3)) mNil)))) (sSet 3 (mOpF gTup' (mCons (mC (.int 2)) (mCons (mC (.int 2)) mNil)))) sNil
noncomputable def fin:MS:=sSeq (sSet 7 (mOpF (ofLen 2 F__law_cell_at) (mCons (mRd 0) (mCons (mC (.int 3)) mNil))))
    (sSeq (sIf (mTru (mOpF (gEq false) (mCons (mOpF gMod (mCons (mOpF gDiv (mCons (mRd 7) (mCons (mC (.int 49)) mNil))) (mCons (mC (.int 3)) mNil))) (mCons (mC (.int 1)) mNil)))) (sSeq (sSet 8 (mOpF gIx (mCons (mPick (mPrss [[(6,2),(2,6)],[(4,2),(2,4)]]) (mOpF gSub (mCons (mRd 1) (mCons (mC (.int 2)) mNil)))) (mCons (mOpF gMod (mCons (mRd 7) (mCons (mC (.int 2)) mNil))) mNil))))
    (sRet (mOpF (ofLen 4 F__law_refused) (mCons (mRd 2) (mCons (mRd 1) (mCons (mOpF gIx (mCons (mRd 8) (mCons (mC (.int 0)) mNil))) (mCons (mOpF gIx (mCons (mRd 8) (mCons (mC (.int 1)) mNil))) mNil))))))) sNil)
    (sRet (mOpF (ofLen 4 F__law_refused) (mCons (mRd 2) (mCons (mRd 1) (mCons (mOpF gAdd (mCons (mC (.int 4)) (mCons (mOpF gMul (mCons (mC (.int 2)) (mCons (mOpF gMod (mCons (mRd 7) (mCons (mC (.int 7)) mNil))) mNil))) mNil))) (mCons (mOpF gAdd (mCons (mC (.int 4)) (mCons (mOpF gMul (mCons (mC (.int 2)) (mCons (mOpF gMod (mCons (mOpF gDiv (mCons (mRd 7) (mCons (mC (.int 7)) mNil))) (mCons (mC (.int 7)) mNil))) mNil))) mNil))) mNil)))))))
theorem law_parts:m_law=(sSeq (sSet 1 (mOpF gAdd (mCons (mC (.int 2)) (mCons (mOpF gMod (mCons (mOpF (ofLen 2 F__law_cell_at) (mCons (mRd 0) (mCons (mC (.int 0)) mNil))) (mCons (mC (.int 2)) mNil))) mNil))))
    (sSeq (sSet 2 (mOpF (ofLen 2 F__law_rule_by) (mCons (mOpF (ofLen 2 F__law_cell_at) (mCons (mRd 0) (mCons (mC (.int 1)) mNil))) (mCons (mRd 1) mNil))))
    (sSeq pick
    (sSeq pick3
    (sSeq (sSet 4 (mOpF (ofLen 4 F__law_rings) (mCons (mRd 2) (mCons (mRd 1) (mCons (mOpF gIx (mCons (mRd 3) (mCons (mC (.int 0)) mNil))) (mCons (mOpF gIx (mCons (mRd 3) (mCons (mC (.int 1)) mNil))) mNil))))))
    (sSeq (sSet 5 (mOpF (ofLen 4 (nrm FX_rings)) (mCons (mRd 2) (mCons (mRd 1) (mCons (mOpF gIx (mCons (mRd 3) (mCons (mC (.int 0)) mNil))) (mCons (mOpF gIx (mCons (mRd 3) (mCons (mC (.int 1)) mNil))) mNil))))))
    (sSeq (sIf (mOr (mNot (mTru (mOpF (gIsi "list") (mCons (mRd 5) mNil)))) (mTru (mOpF (gEq true) (mCons (mRd 5) (mCons (mRd 4) mNil))))) (sRet (mC (.bl false))) sNil)
    (sSeq l0_law
    (sSeq (sIf (mTru (mOpF (gEq true) (mCons (mOpF (ofLen 4 (nrm FX_rings)) (mCons (mOpF (ofLen 1 F_rule_back) (mCons (mRd 2) mNil)) (mCons (mRd 1) (mCons (mOpF gIx (mCons (mRd 3) (mCons (mC (.int 0)) mNil))) (mCons (mOpF gIx (mCons (mRd 3) (mCons (mC (.int 1)) mNil))) mNil))))) (mCons (mRd 4) mNil)))) (sRet (mC (.bl false))) sNil)
    fin))))))))):=rfl
theorem size_of {ns:List Int}{x2:Int}{s2:Option Slot}(hc:(c:Int)=2∨(c:Int)=3)(c2:F__law_cell_at [.fz (ns.map D.int),.val (.int 2)]=some (.val (.int x2))):
    ∃ (w h:Nat) (w0 h0:Int),Rg.Size c w h∧pick [some (.fz (ns.map D.int)),some (.val (.int c)),s2,none,none,none,none,none,none]=some (.nx [some (.fz (ns.map D.int)),some (.val (.int c)),s2,some (.val (.tup [.int w0,.int h0])),none,none,none,none,none])∧
      pick3 [some (.fz (ns.map D.int)),some (.val (.int c)),s2,some (.val (.tup [.int w0,.int h0])),none,none,none,none,none]=some (.nx [some (.fz (ns.map D.int)),some (.val (.int c)),s2,some (.val (.tup [.int w,.int h])),none,none,none,none,none]):=by
  have t0:=@at0 D
  have t1:=@at1 D
  have t2:=@at2 D
  have pk:∃ a b:Nat,((a=2∧b=2)∨(a=4∧b=2)∨(a=2∧b=4))∧pick [some (.fz (ns.map D.int)),some (.val (.int c)),s2,none,none,none,none,none,none]=some (.nx [some (.fz (ns.map D.int)),some (.val (.int c)),s2,some (.val (.tup [.int a,.int b])),none,none,none,none,none]):=by
    have h3:x2 % 3=0∨x2 % 3=1∨x2 % 3=2:=by lia
    unfold pick
    clear hc
    generalize (c:Int)=cc at*
    rcases h3 with e | e | e
    · refine ⟨2,2,.inl ⟨rfl,rfl⟩,?_⟩
      walk_at "mj"
    · refine ⟨4,2,.inr (.inl ⟨rfl,rfl⟩),?_⟩
      walk_at "mj"
    · refine ⟨2,4,.inr (.inr ⟨rfl,rfl⟩),?_⟩
      walk_at "mj"
  obtain ⟨a,b,hab,pk⟩:=pk
  rcases hc with e | e
  · have ec:c=2:=by lia
    subst ec
    refine ⟨a,b,a,b,?_,pk,?_⟩
    · rcases hab with ⟨ha,hb⟩ | ⟨ha,hb⟩ | ⟨ha,hb⟩
      · exact .inl ⟨rfl,ha,hb⟩
      · exact .inr (.inl ⟨rfl,ha,hb⟩)
      · exact .inr (.inr (.inl ⟨rfl,ha,hb⟩))
    · clear pk hab t0 t1 t2
      unfold pick3
      generalize (a:Int)=aa at*
      generalize (b:Int)=bb at*
      walk_at "mj"
  · have ec:c=3:=by lia
    subst ec
    refine ⟨2,2,a,b,.inr (.inr (.inr ⟨rfl,rfl,rfl⟩)),pk,?_⟩
    clear pk hab t0 t1 t2
    unfold pick3
    generalize (a:Int)=aa at*
    generalize (b:Int)=bb at*
    walk_at "mj"
theorem fin_of {ns:List Int}{x3:Int}{s3 s4 s5 s6:Option Slot}(hc:(c:Int)=2∨(c:Int)=3)(c3:F__law_cell_at [.fz (ns.map D.int),.val (.int 3)]=some (.val (.int x3))):
    fin [some (.fz (ns.map D.int)),some (.val (.int c)),some (.own (rs.map D.int)),s3,s4,s5,s6,none,none]=some (.rt (.val (.bl true))):=by
  have t0:=@at0 D
  have t1:=@at1 D
  have u0:=@at0 R
  have u1:=@at1 R
  have rf:∀ w h:Int,0 < w∧w < 100→0 < h∧h < 100→9≤w*h∨c=3∧8≤w*h→F__law_refused [.fz (rs.map D.int),.val (.int c),.val (.int w),.val (.int h)]=some (.val (.bl true)):=fun w h h1 h2 h3=>refused hc h1 h2 h3
  by_cases h1:x3 / 49 % 3=1
  · have h2:x3 % 2=0∨x3 % 2=1:=by lia
    rcases hc with e | e
    · have ec:c=2:=by lia
      subst ec
      rcases h2 with h2 | h2
      · have r:F__law_refused [.fz (rs.map D.int),.val (.int 2),.val (.int 6),.val (.int 2)]=some (.val (.bl true)):=rf 6 2 (by lia) (by lia) (.inl (by lia))
        clear rf e
        unfold fin
        walk_at "mj"
      · have r:F__law_refused [.fz (rs.map D.int),.val (.int 2),.val (.int 2),.val (.int 6)]=some (.val (.bl true)):=rf 2 6 (by lia) (by lia) (.inl (by lia))
        clear rf e
        unfold fin
        walk_at "mj"
    · have ec:c=3:=by lia
      subst ec
      rcases h2 with h2 | h2
      · have r:F__law_refused [.fz (rs.map D.int),.val (.int 3),.val (.int 4),.val (.int 2)]=some (.val (.bl true)):=rf 4 2 (by lia) (by lia) (.inr ⟨rfl,by lia⟩)
        clear rf e
        unfold fin
        walk_at "mj"
      · have r:F__law_refused [.fz (rs.map D.int),.val (.int 3),.val (.int 2),.val (.int 4)]=some (.val (.bl true)):=rf 2 4 (by lia) (by lia) (.inr ⟨rfl,by lia⟩)
        clear rf e
        unfold fin
        walk_at "mj"
  · have r:=rf (4+2*(x3 % 7)) (4+2*(x3 / 7 % 7)) (by lia) (by lia) (.inl (by
      have a1:4*4≤(4+2*(x3 % 7))*(4+2*(x3 / 7 % 7)):=Int.mul_le_mul (by lia) (by lia) (by lia) (by lia)
      lia))
    clear rf hc
    unfold fin
    generalize (c:Int)=cc at*
    walk_at "mj"
end
theorem law_true (ns:List Int)(hns:ns.length≤63):F_law [.fz (ns.map D.int)]=some (.val (.bl true)):=by
  have c0:F__law_cell_at [.fz (ns.map D.int),.val (.int 0)]=some (.val (.int (cell ns 0))):=cell_at ns 0
  have c1:F__law_cell_at [.fz (ns.map D.int),.val (.int 1)]=some (.val (.int (cell ns 1))):=cell_at ns 1
  have c2:F__law_cell_at [.fz (ns.map D.int),.val (.int 2)]=some (.val (.int (cell ns 2))):=cell_at ns 2
  have c3:F__law_cell_at [.fz (ns.map D.int),.val (.int 3)]=some (.val (.int (cell ns 3))):=cell_at ns 3
  generalize cell ns 0=x0 at*
  generalize cell ns 1=x1 at*
  generalize cell ns 2=x2 at*
  generalize cell ns 3=x3 at*
  obtain ⟨c,hcc⟩:=Int.eq_ofNat_of_zero_le (show 0≤2+x0 % 2 by lia)
  have hc:(c:Int)=2∨(c:Int)=3:=by lia
  obtain ⟨rs,hr,er⟩:=rule_by (x:=x1) (c:=(c:Int)) (n:=Bd.nOf c) (by rcases hc with e | e<;>rw [e]<;>simp [Bd.nOf])
  obtain ⟨w,h,w0,h0,z,p1,p2⟩:=size_of (s2:=some (.own (rs.map D.int))) hc c2
  obtain ⟨ps,r1,r2,r3⟩:=three z hr
  have rb:=rule_back hr (by rcases hc with e | e<;>rw [e]<;>simp [Bd.nOf])
  obtain ⟨p,lp⟩:=loop (s0:=some (.fz (ns.map D.int))) (s1:=some (.val (.int c))) (s2:=some (.own (rs.map D.int))) (s3:=some (.val (.tup [.int w,.int h]))) (s4:=some (.own (ps.map pairD))) ps
  have fn:=fin_of (rs:=rs) (s3:=some (.val (.tup [.int w,.int h]))) (s4:=some (.own (ps.map pairD))) (s5:=some (.fz (ps.map pairD))) (s6:=p) hc c3
  have y1:PyData.canLayAll0 (toPs (ps.map pairD))=true:=by
    have:=(ok_pairs ps).1
    rw [PyData.canLay0] at this
    exact this
  have y2:PyData.depthAll (toPs (ps.map pairD))≤59:=by
    have:=(ok_pairs ps).2
    rw [PyData.depth] at this
    lia
  have y3:=eqv_pairs ps
  have t0:=@at0 D
  have t1:=@at1 D
  clear z hr hc
  generalize ps.map pairD=pl at*
  generalize (Bd.bkl rs (Bd.nOf c)).map D.int=bl at*
  generalize rs.map D.int=rl at*
  generalize (c:Int)=cc at*
  generalize (w:Int)=ww at*
  generalize (h:Int)=hh at*
  unfold F_law
  rw [law_parts]
  walk_at "mi"
end K15
namespace K15
open PySem L2 Mi Sh
open PySem.Spec
theorem walk {l:PySem.W.OpenLaw}{q:Program}{loose:List Str}{XP:(Str→Option Value)→Heap→Prop}{YP:World→Heap→Prop}{d:DefRec}{K:Params→PySem.W.Frag}(hn:l.most=some 63)(hdf:d.params.defaults=[])
    (hY:∀ (w:World) (h:Heap),YP w h→(K w.params).In h)
    (F:∀ (w:World) (mg:Str→Option Value) (fa:Addr) (h:Heap),(K w.params).In h→h.Ns mainGlobals mg→mg d.name=some (.ref fa)→
      ∃ fd:FuncData,(∀ (s:Shared) (u:Value),BindsTo s fd ⟨[u],[]⟩ [("script",u)])∧∀ base:Heap,(K w.params).In base→base.Ns mainGlobals mg→FnOk l.prog w (K w.params) mg base CX0 8 fa fd ["script"] (spF (K w.params) 1 F_law)):
    PySem.W.WalkO q loose XP YP l.row.toRowW d [] (fun f vs=>PySem.call f vs):=
  L2.walk_of (n:=63) (k:=8) (x := "script") (CX:=fun _=>CX0) (sp:=fun w=>spF (K w.params) 1 F_law) hn (by decide) hdf ⟨rfl,by decide,by decide⟩ hY F (fun _ H a ns hl _ hS=>sp_law law_true H a ns hl hS) fun _ _ _ _ _ z=>z
end K15
open PySem PySem.W PyProof.Rows
set_option maxRecDepth 100000 in
set_option maxHeartbeats 0 in
theorem PySem.Challenge.cw_blockturn_k15_whole_all_rings_holds : PySem.Challenge.rw_blockturn_k15_whole_all_rings.Holds := by
  w_on; o_law; k_head; (case hw=>w_witness2)
  k_fill
  refine K15.walk (l:=PySem.Challenge.rw_blockturn_k15_whole_all_rings) rfl rfl (fun w h Y=>PySem.W.kIn_of Y) ?F
  case F=>
    intro w mg fa h KX G hmg
    refine' K15.all_mk KX G hmg ?a0 ?l0 ?c0 ?k0 ?a1 ?l1 ?c1 ?k1 ?a2 ?l2 ?c2 ?k2 ?a3 ?l3 ?c3 ?k3 ?a4 ?l4 ?c4 ?k4 ?a5 ?l5 ?c5 ?k5 ?a6 ?l6 ?c6 ?k6 ?a7 ?l7 ?c7 ?k7 ?a8 ?l8 ?c8 ?k8 ?a9 ?l9 ?c9 ?k9 ?a10 ?l10 ?c10 ?k10 ?a11 ?l11 ?c11 ?k11 ?a12 ?l12 ?c12 ?k12 ?a13 ?l13 ?c13 ?k13 ?a14 ?l14 ?c14 ?k14 ?a15 ?l15 ?c15 ?k15 ?a16 ?l16 ?c16 ?k16 ?a17 ?l17 ?c17 ?k17 ?a18 ?l18 ?c18 ?k18 ?a19 ?l19 ?c19 ?k19 ?a20 ?l20 ?c20 ?k20 ?a21 ?l21 ?c21 ?k21 ?a22 ?l22 ?c22 ?k22 ?ax0 ?ex0 ?ax1 ?ex1 ?ax2 ?ex2 ?em0 ?cn0 ?ka0 ?ka1 ?kx0_0 ?kx0_1 ?kx0_2 ?kx0_3 ?kx0_4 ?kx0_5 ?ki0 ?ki1 ?ki2 ?kv0 ?z0 ?z1 ?z2 ?z3 ?z4 ?z5 ?z6 ?z7 ?z8 ?z9 ?z10 ?z11 ?z12 ?z13 ?z14
    (case a0=>k_is); (case l0=>k_is); (case c0=>k_is); (case k0=>k_is); (case a1=>k_is); (case l1=>k_is); (case c1=>k_is); (case k1=>k_is)
    (case a2=>k_is); (case l2=>k_is); (case c2=>k_is); (case k2=>k_is); (case a3=>k_is); (case l3=>k_is); (case c3=>k_is); (case k3=>k_is)
    (case a4=>k_is); (case l4=>k_is); (case c4=>k_is); (case k4=>k_is); (case a5=>k_is); (case l5=>k_is); (case c5=>k_is); (case k5=>k_is)
    (case a6=>k_is); (case l6=>k_is); (case c6=>k_is); (case k6=>k_is); (case a7=>k_is); (case l7=>k_is); (case c7=>k_is); (case k7=>k_is)
    (case a8=>k_is); (case l8=>k_is); (case c8=>k_is); (case k8=>k_is); (case a9=>k_is); (case l9=>k_is); (case c9=>k_is); (case k9=>k_is)
    (case a10=>k_is); (case l10=>k_is); (case c10=>k_is); (case k10=>k_is); (case a11=>k_is); (case l11=>k_is); (case c11=>k_is); (case k11=>k_is)
    (case a12=>k_is); (case l12=>k_is); (case c12=>k_is); (case k12=>k_is); (case a13=>k_is); (case l13=>k_is); (case c13=>k_is); (case k13=>k_is)
    (case a14=>k_is); (case l14=>k_is); (case c14=>k_is); (case k14=>k_is); (case a15=>k_is); (case l15=>k_is); (case c15=>k_is); (case k15=>k_is)
    (case a16=>k_is); (case l16=>k_is); (case c16=>k_is); (case k16=>k_is); (case a17=>k_is); (case l17=>k_is); (case c17=>k_is); (case k17=>k_is)
    (case a18=>k_is); (case l18=>k_is); (case c18=>k_is); (case k18=>k_is); (case a19=>k_is); (case l19=>k_is); (case c19=>k_is); (case k19=>k_is)
    (case a20=>k_is); (case l20=>k_is); (case c20=>k_is); (case k20=>k_is); (case a21=>k_is); (case l21=>k_is); (case c21=>k_is); (case k21=>k_is)
    (case a22=>k_is); (case l22=>k_is); (case c22=>k_is); (case k22=>k_is); (case ax0=>k_is); (case ex0=>k_exc); (case ax1=>k_is); (case ex1=>k_exc)
    (case ax2=>k_is); (case ex2=>k_exc); (case em0=>kts_exm); (case cn0=>k_is); (case ka0=>k_is); (case ka1=>k_is); (case kx0_0=>k_is); (case kx0_1=>k_is)
    (case kx0_2=>k_is); (case kx0_3=>k_is); (case kx0_4=>k_is); (case kx0_5=>k_is); (case ki0=>kit_is); (case ki1=>kit_is); (case ki2=>kit_is); (case kv0=>k_is)
    (case z0=>k_is); (case z1=>k_is); (case z2=>k_is); (case z3=>k_is); (case z4=>k_is); (case z5=>k_is); (case z6=>k_is); (case z7=>k_is)
    (case z8=>k_is); (case z9=>k_is); (case z10=>k_is); (case z11=>k_is); (case z12=>k_is); (case z13=>k_is); (case z14=>k_is)
