import inspect
import unittest

from blockturn import again, blocks, boards, notes, running

ARGUMENTS = (
    (blocks, "block_of", ["number", "colours"]),
    (blocks, "number_of", ["block", "colours"]),
    (blocks, "looked", ["rule", "colours"]),
    (blocks, "rule_back", ["rule"]),
    (blocks, "named", ["name"]),
    (boards, "looked_board", ["board", "colours"]),
    (boards, "moved", ["board", "a", "b"]),
    (boards, "turned_board", ["board", "turning"]),
    (boards, "turned_rule", ["rule", "colours", "turning"]),
    (boards, "total", ["board", "weights"]),
    (boards, "keeps", ["rule", "colours", "weights"]),
    (running, "forward", ["board", "rule", "colours", "moment", "steps"]),
    (running, "back", ["board", "rule", "colours", "moment", "steps"]),
    (again, "comes_again", ["board", "rule", "colours", "moment", "most"]),
    (again, "moves", ["board", "rule", "colours", "moment", "steps"]),
    (again, "rings", ["rule", "colours", "width", "height"]),
    (notes, "board_shown", ["board"]),
    (notes, "rule_shown", ["rule", "colours"]),
    (notes, "read_board", ["text", "colours"]),
    (notes, "read_rule", ["text"]),
)


class Interface(unittest.TestCase):
    def test_names_and_arguments(self):
        for module, name, arguments in ARGUMENTS:
            with self.subTest(name):
                self.assertEqual(list(inspect.signature(getattr(module, name)).parameters), arguments)
