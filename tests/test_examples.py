import doctest
import pathlib
import unittest

from markedways.failures import stranding
from markedways.likeness import parting, within
from markedways.nets import Net
from markedways.programs import Program
from markedways.rounds import most_marks, weakest_gate
from markedways.slices import leak
from markedways.texts import tree_text
from markedways.ways import ways


class DocumentExamples(unittest.TestCase):
    def test_door_and_hall(self):
        door = Program(["at", "tag"], ("row", ("is", "at", 1), ("mark",), ("set", "at", 2)))
        hall = Program(["tag", "at"], ("row", ("is", "at", 2), ("mark",), ("take", "tag", "at"), ("set", "at", 1)))
        walk = (door + hall).loop()
        self.assertEqual(walk.tree, ("loop", ("choice", door.tree, hall.tree)))
        self.assertEqual(walk.fields, ("at", "tag"))
        self.assertEqual((walk.marks, walk.numbers), (2, (1, 2)))
        self.assertEqual((tree_text(walk.tree), walk((1, 7))),
                         ("(at=1; mark; at:=2 + at=2; mark; tag:=at; at:=1)*", [(1, 2), (1, 7), (2, 2), (2, 7)]))
        self.assertEqual(ways(walk, (1, 7), 2), [((1, 7),), ((1, 7), (2, 7)), ((1, 7), (2, 7), (1, 2))])
        self.assertEqual(leak(door, hall), ((1, 1), ((1, 1), (2, 1), (1, 2))))

    def test_few_and_all_ones(self):
        few, all_ones = Program(["a"], ("choice", ("is", "a", 1), ("is", "a", 2))), Program(["a"], ("pass",))
        self.assertEqual([few.holds((n,)) for n in (0, 1, 2, 3)], [False, True, True, False])
        self.assertEqual([all_ones.holds((n,)) for n in (0, 1, 2, 3)], [True] * 4)
        self.assertEqual([few((n,)) for n in (0, 1)], [[], [(1,)]])
        self.assertEqual((within(few, all_ones), parting(few, all_ones)), (True, ((0,), ((0,),), 1)))
        gate = weakest_gate(few, Program(["a"], ("is", "a", 2)))
        self.assertEqual(([gate.holds((n,)) for n in (0, 1, 2, 3)], most_marks(few, all_ones)),
                         ([True, True, False, True], 0))

    def test_near_and_far(self):
        near, far = ((("set", "at", 2),),), ((("set", "at", 3),),)
        tables = {1: [(("pass",), (near, far))], 2: [(("pass",), (far,))], 3: []}
        net = Net(["at", "to"], "at", tables, [(1, 2), (1, 3), (2, 3)])
        self.assertEqual((net.hop((1, 9)), net.without(((1, 2),)).hop((1, 9))), ([(2, 9)], [(3, 9)]))
        start, goal = Program(["at", "to"], ("is", "at", 1)), Program(["at", "to"], ("is", "at", 3))
        self.assertEqual(stranding(net, start, goal, 2), (((2, 3),), (1, 1)))

    def test_the_document_itself_where_it_is_here(self):
        document = pathlib.Path(__file__).resolve().parents[2] / "shared" / "DOC.md"
        if not document.exists():
            self.skipTest("the document is not here")
        blocks = document.read_text().split("```\n")[1::2]
        self.assertEqual(len(blocks), 3)
        for block in blocks:
            test = doctest.DocTestParser().get_doctest(block, {}, "DOC.md", "DOC.md", 0)
            self.assertGreater(len(test.examples), 5)
            self.assertEqual(doctest.DocTestRunner(verbose=False).run(test).failed, 0)


if __name__ == "__main__":
    unittest.main()
