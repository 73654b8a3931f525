"""Recipes and trees: points 3, 4 and 5."""

import unittest

from farenough.errors import BadTree, BuildError
from farenough.recipes import Recipe, TreeRecipe
from samples import STOP, deep, read, write

A, B, C, D, E = ("a", "x"), ("b", "x"), ("c", "x"), ("d", "x"), ("e", "x")

NO_NODES = [None, True, False, 0, -1, 10 ** 5000, "", "stop", (), ["stop"], (STOP,), ("stop", ()), ("stop", STOP),
            ("Stop",), ("write",), ("read",), (None,), ("halt",), ((),) * 4, deep(150), list(write("x")),
            ("stop", "x", (), STOP), ("read", "x", (), STOP), (deep(150), "x", (), STOP), ("write", (A,), (), STOP),
            ("stop", (A,), (), STOP), ("Read", (A,), (), STOP), (None, (A,), (), STOP)]


class RecipeTest(unittest.TestCase):

    def test_stops_at_once(self):
        self.assertEqual(Recipe().step_at((), (), 0), STOP)
        self.assertEqual(Recipe().step_at(arguments=("a",), answers=(), count=0), STOP)

    def test_methods_stand_in_the_classes_themselves(self):
        self.assertIn("step_at", vars(Recipe))
        self.assertIn("step_at", vars(TreeRecipe))
        self.assertIn("node", vars(TreeRecipe))
        self.assertTrue(issubclass(TreeRecipe, Recipe))


class StepsTest(unittest.TestCase):

    def test_stop(self):
        self.assertEqual(TreeRecipe(STOP).step_at((), (), 0), STOP)

    def test_writes(self):
        tree = TreeRecipe(write("x", ("one",), write("y", ("two", "!"), STOP)))
        self.assertEqual(tree.step_at((), (), 0), ("write", "x", "one"))
        self.assertEqual(tree.step_at((), (), 1), ("write", "y", "two!"))
        self.assertEqual(tree.step_at((), (), 2), STOP)

    def test_reads(self):
        tree = TreeRecipe(read((A, B), (), read((C,), (), write("x"))))
        self.assertEqual(tree.step_at((), (), 0), ("read", (A, B)))
        self.assertEqual(tree.step_at((), (("1", None),), 0), ("read", (C,)))
        self.assertEqual(tree.step_at((), (("1", None), ("2",)), 0), ("write", "x", ""))
        self.assertEqual(tree.step_at((), (("1", None), ("2",)), 1), STOP)

    def test_writes_ahead_of_a_read_do_not_count_behind_it(self):
        tree = TreeRecipe(write("x", ("1",), write("y", ("2",), read((A,), (), write("z", ("3",), read((B,)))))))
        self.assertEqual(tree.step_at((), (), 1), ("write", "y", "2"))
        self.assertEqual(tree.step_at((), (), 2), ("read", (A,)))
        self.assertEqual(tree.step_at((), ((None,),), 0), ("write", "z", "3"))
        self.assertEqual(tree.step_at((), ((None,),), 1), ("read", (B,)))
        self.assertEqual(tree.step_at((), ((None,), ("b",)), 0), STOP)

    def test_places_in_any_order_and_twice(self):
        tree = TreeRecipe(read((A,), ((("1",), write("x", ("one",))),), write("y", ((1, 0),))))
        asked = [((("2",),), 0), ((), 0), ((("1",),), 0), ((("2",),), 1), ((("1",),), 1), ((("2",),), 0), ((), 0)]
        steps = [("write", "y", "2"), ("read", (A,)), ("write", "x", "one"), STOP, STOP, ("write", "y", "2"),
                 ("read", (A,))]
        for _ in range(2):
            self.assertEqual([tree.step_at((), answers, count) for answers, count in asked], steps)

    def test_many_steps(self):
        node = STOP
        for at in reversed(range(40)):
            node = read((A,), (((None,), STOP),), write(f"o{at}", ((at + 1, 0),), node))
        tree = TreeRecipe(node)
        answers = tuple((str(at),) for at in range(40))
        for at in range(40):
            self.assertEqual(tree.step_at((), answers[:at], 1 if at else 0), ("read", (A,)))
            self.assertEqual(tree.step_at((), answers[:at + 1], 0), ("write", f"o{at}", str(at)))
        self.assertEqual(tree.step_at((), (*answers[:5], (None,)), 0), STOP)
        self.assertEqual(tree.step_at((), answers, 1), STOP)


class CasesTest(unittest.TestCase):

    def after(self, cases, answers, last=write("last")):
        tree = TreeRecipe(read((A, B)[:len(answers)], cases, last))
        return tree.step_at((), (answers,), 0)

    def test_the_first_of_two_equal_cases(self):
        cases = ((("1",), write("one")), (("2",), write("two")), (("1",), write("three")), (("2",), write("four")))
        self.assertEqual(self.after(cases, ("1",)), ("write", "one", ""))
        self.assertEqual(self.after(cases, ("2",)), ("write", "two", ""))

    def test_no_case_fits(self):
        self.assertEqual(self.after(((("1",), write("one")),), ("2",)), ("write", "last", ""))
        self.assertEqual(self.after((), ("2",)), ("write", "last", ""))
        self.assertEqual(self.after(((("1",), write("one")),), ("2",), STOP), STOP)

    def test_none_and_the_empty_text_are_two_answers(self):
        cases = (((None,), write("none")), (("",), write("empty")))
        self.assertEqual(self.after(cases, (None,)), ("write", "none", ""))
        self.assertEqual(self.after(cases, ("",)), ("write", "empty", ""))
        self.assertEqual(self.after(cases[:1], ("",)), ("write", "last", ""))
        self.assertEqual(self.after(cases[1:], (None,)), ("write", "last", ""))

    def test_all_answers_are_compared(self):
        cases = ((("1", None), write("one")), (("1", "2"), write("two")))
        self.assertEqual(self.after(cases, ("1", "2")), ("write", "two", ""))
        self.assertEqual(self.after(cases, ("1", None)), ("write", "one", ""))
        self.assertEqual(self.after(cases, ("2", "1")), ("write", "last", ""))


class PartsTest(unittest.TestCase):

    def text(self, parts, arguments=(), answers=()):
        node = write("x", parts)
        for row in reversed(answers):
            node = read((A, B, C, D)[:len(row)], (), node)
        return TreeRecipe(node).step_at(arguments, answers, 0)[2]

    def test_texts(self):
        self.assertEqual(self.text(()), "")
        self.assertEqual(self.text(("a", "", " b")), "a b")

    def test_items_of_the_arguments(self):
        self.assertEqual(self.text(((0, 1), "-", (0, 0)), ("one", "two")), "two-one")

    def test_items_of_answers(self):
        answers = (("1",), ("2", "3"), ("4", "5", "6", "7"))
        self.assertEqual(self.text(((1, 0), (3, 3), (2, 1), (2, 0), (1, 0)), (), answers), "17321")
        self.assertEqual(self.text(((0, 0), (1, 0)), ("arg",), answers), "arg1")

    def test_items_that_are_none(self):
        self.assertEqual(self.text(("<", (1, 0), ">", (1, 1)), (), ((None, "b"),)), "<>b")

    def test_items_that_are_not_there(self):
        for k, i in [(0, 2), (1, 1), (2, 0), (0, -1), (1, -1), (-1, 0), (-2, 0), (-1, -1), (10 ** 30, 0), (0, 10 ** 30),
                     (-10 ** 30, -10 ** 30)]:
            self.assertEqual(self.text(("<", (k, i), ">"), ("a", "b"), (("c",),)), "<>", (k, i))
        self.assertEqual(self.text(((0, 0),)), "")

    def test_answers_to_later_reads_are_not_there_yet(self):
        tree = TreeRecipe(write("x", ("<", (1, 0), ">"), read((A,), (), write("y", ("<", (1, 0), ">")))))
        self.assertEqual(tree.step_at((), (), 0), ("write", "x", "<>"))
        self.assertEqual(tree.step_at((), (("1",),), 0), ("write", "y", "<1>"))

    def test_400_and_401_characters(self):
        tree = TreeRecipe(write("x", ("a" * 399, (0, 0)), write("y")))
        self.assertEqual(tree.step_at(("b",), (), 0), ("write", "x", "a" * 399 + "b"))
        self.assertEqual(tree.step_at(("b",), (), 1), ("write", "y", ""))
        self.assertEqual(tree.step_at(("bc",), (), 0), STOP)
        tree = TreeRecipe(write("x", ((0, 0), (0, 1))))
        self.assertEqual(tree.step_at(("a" * 400, ""), (), 0), ("write", "x", "a" * 400))
        self.assertEqual(tree.step_at(("a" * 400, "b"), (), 0), STOP)
        self.assertEqual(tree.step_at(("a" * 400, "b" * 400), (), 0), STOP)

    def test_too_long_a_text_behind_a_read_and_a_write(self):
        tree = TreeRecipe(read((A,), (), write("x", ("1",), write("y", ((1, 0),) * 2, read((B,))))))
        self.assertEqual(tree.step_at((), (("a" * 201,),), 0), ("write", "x", "1"))
        self.assertEqual(tree.step_at((), (("a" * 201,),), 1), STOP)
        self.assertEqual(tree.step_at((), (("a" * 200,),), 1), ("write", "y", "a" * 400))
        self.assertEqual(tree.step_at((), (("a" * 200,),), 2), ("read", (B,)))


class BadTreeTest(unittest.TestCase):

    def check(self, node, path):
        with self.assertRaises(BadTree) as caught:
            TreeRecipe(node)
        self.assertEqual(caught.exception.path, path)
        self.assertIs(type(caught.exception.path), tuple)
        self.assertIsInstance(caught.exception, BuildError)

    def check_everywhere(self, bad):
        """A bad node is found at the top and wherever else a node may stand."""
        good = write("y")
        self.check(bad, ())
        self.check(write("w", (), bad), (0,))
        self.check(read((A,), (), bad), (0,))
        self.check(read((A,), ((("1",), good), (("2",), bad), (("3",), good)), good), (1,))
        self.check(read((A,), ((("1",), good), (("2",), good)), bad), (2,))
        self.check(write("w", (), read((B,), ((("1",), good), (("2",), write("v", (), bad))), good)), (0, 1, 0))
        self.check(read((B,), (((None,), STOP),), read((A,), ((("1",), bad),), good)), (1, 0))

    def test_any_value_in_the_place_of_a_node(self):
        for value in NO_NODES:
            self.check_everywhere(value)

    def test_items_more_or_fewer(self):
        for node in [write("x")[:3], write("x") + (STOP,), read((A,))[:3], read((A,)) + (STOP,), STOP * 2]:
            self.check_everywhere(node)

    def test_outputs(self):
        for output in ["", "X", "1a", "a" * 9, "a.b", None, 0, True, ("x",), (), ["x"], deep(140)]:
            self.check_everywhere(write(output))

    def test_parts(self):
        for parts in [None, "abc", 0, True, ["a"], [], (0, 1), (None,), (True,), (0,), ((),), ((0,),), ((0, 1, 2),),
                      ([0, 1],), (("a", 0),), ((0, "a"),), ((True, 0),), ((0, False),), ((None, 0),), ((0, None),),
                      (((0, 0), (0, 0)),), ("a\n",), ("a" * 401,), ("ok", (0, 0), None), deep(140)]:
            self.check_everywhere(write("x", parts))

    def test_keys(self):
        for keys in [(), None, A, "ab", 0, True, [A], (A, A), (A, B, A), (A, B, C, D, E), (None,),
                     (A, None), (list(A),), (("a",),), (("a", "x", "y"),), (("A", "x"),), (("a", ""),),
                     (A, ("b", None)), deep(140)]:
            for cases in [(), ((("1",), STOP),)]:
                self.check_everywhere(read(keys, cases))

    def test_cases(self):
        for cases in [None, "", 0, True, [], [(("1",), STOP)], (None,), (STOP,), ((),), ((("1",),),), (True,),
                      ((("1",), STOP, STOP),), ([("1",), STOP],), ((("1",), STOP), None), (("1", STOP),), deep(140)]:
            self.check_everywhere(read((A,), cases))

    def test_answers_of_cases(self):
        for answers in [(), ("1", "2"), (0,), (True,), (("1",),), ("a\n",), ("a" * 401,), "1", None, ["1"], deep(140)]:
            self.check_everywhere(read((A,), ((answers, STOP),)))
            self.check_everywhere(read((A,), ((("1",), STOP), (answers, STOP))))
        for answers in [("1",), ("1", "2", "3"), (None,), ("1", 2), (None, None, None)]:
            self.check_everywhere(read((A, B), ((answers, STOP),)))

    def test_an_output_that_was_written_ahead(self):
        self.check(write("x", (), write("x")), (0,))
        self.check(write("x", (), write("y", (), write("x"))), (0, 0))
        self.check(write("x", (), read((A,), ((("1",), write("x")),))), (0, 0))
        self.check(write("x", (), read((A,), ((("1",), STOP),), write("x"))), (0, 1))
        self.check(read((A,), ((("1",), STOP), (("2",), write("x", (), write("x"))))), (1, 0))

    def test_an_output_on_two_paths_is_right(self):
        TreeRecipe(read((A,), ((("1",), write("x")), (("2",), write("x"))), write("x")))
        TreeRecipe(write("y", (), read((A,), ((("1",), write("x", (), read((B,), (), write("z")))),), write("x"))))

    def test_of_two_nodes_at_fault_one_in_the_other_the_outer_one_is_first(self):
        self.check(write("X", (), write("Y")), ())
        self.check(write("w", (), write("w", (), write("w"))), (0,))
        self.check(read((A, A), ((("1",), None),), None), ())
        self.check(read((A,), (((), None),), STOP), ())
        self.check(read((A,), ((("1",), None), (("1", "2"), STOP)), STOP), ())
        self.check(write("w", (), read((A,), ((("1",), None), None), STOP)), (0,))

    def test_of_two_nodes_at_fault_side_by_side_the_one_with_the_smaller_index_is_first(self):
        self.check(read((A,), ((("1",), STOP), (("2",), None), (("3",), None)), None), (1,))
        self.check(read((A,), ((("1",), STOP),), None), (1,))
        self.check(read((A,), ((("1",), write("x", (), write("y", (), None))), (("2",), None)), None), (0, 0, 0))
        inner = read((B,), ((("1",), STOP),), None)
        self.check(read((A,), ((("1",), STOP), (("2",), inner)), None), (1, 1))
        self.check(read((A,), ((("1",), write("x", (), write("x"))), (("2",), None))), (0, 0))

    def test_deep_trees(self):
        node, bad = STOP, None
        for at in range(150):
            node, bad = write(f"o{at}", (), node), write(f"o{at}", (), bad)
        self.assertEqual(TreeRecipe(node).step_at((), (), 150), STOP)
        self.assertEqual(TreeRecipe(node).step_at((), (), 0), ("write", "o149", ""))
        self.assertEqual(TreeRecipe(node), TreeRecipe(write("o149", (), node[3])))
        self.check(bad, (0,) * 150)
        node, bad = STOP, None
        for _ in range(50):
            node = read((A,), (((None,), STOP), (("1",), node)))
            bad = read((A,), (((None,), STOP), (("1",), bad)))
        self.assertEqual(TreeRecipe(node).step_at((), (("1",),) * 50, 0), STOP)
        self.check(bad, (1,) * 50)

    def test_far_deeper_trees(self):
        node, bad = STOP, None
        for at in range(3000):
            node, bad = read((A,), (), node), read((A,), (), bad)
        self.assertEqual(TreeRecipe(node).step_at((), ((None,),) * 3000, 0), STOP)
        self.check(bad, (0,) * 3000)

    def test_no_error_for_right_trees(self):
        for node in [STOP, write("x"), write("x", ("a" * 400, (0, 0), (-1, -7), "")), read((A, B, C, D)),
                     read((A, B), (((None, ""), STOP), (("1", "a" * 400), write("x")))),
                     read((A,), ((("1",), STOP), (("1",), STOP))), write("abcdefgh"), write("stop", (), write("read"))]:
            self.assertEqual(TreeRecipe(node).node, node)


class NodeTest(unittest.TestCase):

    def test_node(self):
        node = read((A,), ((("1",), write("x", ((1, 0),))),), STOP)
        tree = TreeRecipe(node=node)
        self.assertEqual(tree.node, node)
        self.assertEqual(tree.step_at(arguments=(), answers=(("1",),), count=0), ("write", "x", "1"))
        self.assertEqual(tree.node, node)

    def test_equal_exactly_if_the_nodes_are(self):
        nodes = [STOP, write("x"), write("y"), write("x", ("",)), write("x", ((0, 0),)), write("x", ((0, 1),)),
                 read((A,)), read((A, B)), read((B, A)), read((A,), ((("1",), STOP),)), read((A,), (((None,), STOP),))]
        for at, one in enumerate(nodes):
            for to, other in enumerate(nodes):
                self.assertIs(TreeRecipe(one) == TreeRecipe(other), at == to)
                self.assertIs(TreeRecipe(one) != TreeRecipe(other), at != to)

    def test_equal_to_nothing_else(self):
        tree = TreeRecipe(STOP)
        for value in [Recipe(), STOP, None, True, "stop", 0, [tree], (tree,), [], object()]:
            self.assertIs(tree == value, False)
            self.assertIs(value == tree, False)
            self.assertIs(tree != value, True)
        self.assertIs(Recipe() == TreeRecipe(STOP), False)


if __name__ == "__main__":
    unittest.main()
