"""Keys, steps, places and their order: points 1, 2, 3, 5 and 6."""

import itertools
import unittest

from farenough.steps import after_read, after_write, in_order, is_behind, is_key, is_place, is_step

PLAIN = [None, True, False, 0, 1, -1, 10 ** 5000, "", "a", "read", (), ("a",), ("a", "b"), ("a", "b", "c"),
         ("a", "b", "c", "d"), ((),) * 4, (((((((((),),),),),),),),), [], ["a", "b"], {}, b"ab", 1.5, object()]
ALL_SIGNS = [chr(code) for code in range(0, 400)] + ["\u0660", "\u2028", "\uff41", "\ud800", "\U0001d44e"]
GOOD_SIGNS = "abcdefghijklmnopqrstuvwxyz0123456789"
TEXTS = ["", " ", "~", "a b", '"', "\\", "$&", "x" * 400]
NO_TEXTS = ["x" * 401, "a%b", "%", "a\n", "\n", "\t", "\x1f", "\x7f", "\x80", "\u00e9", "\u2028",
            None, 0, True, (), ["a"]]


class AnyValueTest(unittest.TestCase):

    def check(self, function, good, bad):
        for value in good:
            self.assertIs(function(value), True, value)
        for value in bad:
            self.assertIs(function(value), False, value)


class KeyTest(AnyValueTest):

    def check_name(self, name, right):
        for value in [(name, "out"), ("lib", name)]:
            self.assertIs(is_key(value), right, value)
        self.assertIs(is_step(("write", name, "text")), right, name)
        self.assertIs(is_step(("read", (("lib", name),))), right, name)

    def test_lengths_of_names(self):
        for name, right in [("", False), ("a", True), ("abcdefgh", True), ("abcdefghi", False), ("a" * 400, False)]:
            self.check_name(name, right)

    def test_each_sign_at_each_place(self):
        for at in range(8):
            for sign in ALL_SIGNS:
                name = "a" * at + sign + "a" * (7 - at)
                right = sign in GOOD_SIGNS and (at > 0 or sign not in "0123456789")
                self.check_name(name, right)

    def test_one_sign(self):
        for sign in ALL_SIGNS:
            self.check_name(sign, sign in GOOD_SIGNS[:26])

    def test_names_that_are_no_strings(self):
        for value in [None, 0, True, ("a",), ["a"], b"a", ()]:
            self.check_name(value, False)

    def test_keys(self):
        self.check(is_key, [("lib", "list"), ("a", "a"), ("a1", "z9z9z9z9")],
                   [("lib",), ("lib", "list", "x"), ["lib", "list"], "ab", ("lib", ["list"]), (), (("lib", "list"),)])

    def test_any_value(self):
        for value in PLAIN:
            self.assertIs(is_key(value), value == ("a", "b") and isinstance(value, tuple))


class StepTest(AnyValueTest):

    def test_stop(self):
        self.check(is_step, [("stop",)], [("stop", ()), ("stop", "a"), ("stops",), "stop", ["stop"], (("stop",),),
                                          ("Stop",), (None,), (True,), ()])

    def test_write(self):
        good = [("write", "x", text) for text in TEXTS]
        bad = [("write", "x", text) for text in NO_TEXTS]
        bad += [("write", "x"), ("write", "x", "t", "u"), ["write", "x", "t"], ("Write", "x", "t"), ("read", "x", "t"),
                ("stop", "x", "t"), ("write", "", "t"), ("write", "X", "t"), ("write", None, "t")]
        self.check(is_step, good, bad)

    def test_read(self):
        keys = [("a", "x"), ("a", "y"), ("b", "x"), ("b", "y"), ("c", "x")]
        good = [("read", tuple(keys[:many])) for many in range(1, 5)]
        bad = [("read", ()), ("read", tuple(keys)), ("read", (keys[0], keys[0])), ("read", (keys[0], keys[1], keys[0])),
               ("read", keys[:1]), ("read", (["a", "x"],)), ("read", keys[0]), ("read", (keys[0],), ()),
               ("read",), ["read", (keys[0],)], ("write", (keys[0],)), ("read", None), ("read", (("a", "x", "y"),)),
               ("read", (("a", None),)), ("read", ((),)), ("read", (keys[0], ("A", "x")))]
        self.check(is_step, good, bad)

    def test_keys_that_differ_in_one_name_are_different(self):
        self.assertIs(is_step(("read", (("a", "b"), ("b", "a")))), True)

    def test_any_value(self):
        for value in PLAIN:
            self.assertIs(is_step(value), False, value)
            self.assertIs(is_step(("read", value)), False, value)
            self.assertIs(is_step(("write", value, "a")), value == "a" or value == "read", value)
            self.assertIs(is_step(("write", "a", value)), isinstance(value, str), value)
            self.assertIs(is_step((value, (("a", "b"),))), value == "read", value)


class PlaceTest(AnyValueTest):

    def test_ordinary_places(self):
        self.check(is_place, [("r", (), (), 0), ("r", ("a",), (("b", None),), 3), ("", ("",), (("",),), 0)], [])

    def test_recipes(self):
        self.check(is_place, [(text, (), (), 0) for text in TEXTS], [(text, (), (), 0) for text in NO_TEXTS])

    def test_arguments(self):
        good = [("r", ("a",) * many, (), 0) for many in range(5)] + [("r", (text,), (), 0) for text in TEXTS]
        bad = [("r", ("a",) * 5, (), 0), ("r", ["a"], (), 0), ("r", "a", (), 0), ("r", None, (), 0)]
        bad += [("r", ("a", text), (), 0) for text in NO_TEXTS]
        self.check(is_place, good, bad)

    def test_answers(self):
        good = [("r", (), (("a",) * many,), 0) for many in range(1, 5)] + [("r", (), ((None,),), 0)]
        good += [("r", (), ((None, "a"), (None, None, None, None)), 1)]
        good += [("r", (), ((text,),), 0) for text in TEXTS]
        bad = [("r", (), ((),), 0), ("r", (), (("a",) * 5,), 0), ("r", (), (("a",), ()), 0), ("r", (), (["a"],), 0),
               ("r", (), [("a",)], 0), ("r", (), ("a",), 0), ("r", (), "a", 0), ("r", (), None, 0),
               ("r", (), (None,), 0)]
        bad += [("r", (), ((text,),), 0) for text in NO_TEXTS if text is not None]
        self.check(is_place, good, bad)

    def test_counts(self):
        good = [("r", (), (), count) for count in (0, 1, 60, 10 ** 6)]
        bad = [("r", (), (), count) for count in (-1, -10, True, False, "0", "", None, (), (0,), 0.0)]
        self.check(is_place, good, bad)

    def test_items_more_or_fewer(self):
        self.check(is_place, [], [("r", (), ()), ("r", (), (), 0, 0), ["r", (), (), 0], (), ("r", (), 0)])

    def test_the_limits_of_point_19_do_not_count(self):
        self.assertIs(is_place(("r", (), (("a",),) * 200, 0)), True)
        self.assertIs(is_place(("r", (), ((None,) * 4,) * 61, 5000)), True)

    def test_any_value(self):
        for value in PLAIN:
            self.assertIs(is_place(value), False, value)
            self.assertIs(is_place((value, (), (), 0)), isinstance(value, str))
            fits = isinstance(value, tuple) and all(isinstance(item, str) for item in value)
            self.assertIs(is_place(("r", value, (), 0)), fits, value)
            self.assertIs(is_place(("r", (), value, 0)), value == ())
            self.assertIs(is_place(("r", (), (), value)), type(value) is int and value >= 0)

    def test_by_names(self):
        self.assertIs(is_key(value=("a", "b")), True)
        self.assertIs(is_step(value=("stop",)), True)
        self.assertIs(is_place(value=("r", (), (), 0)), True)


class NextPlaceTest(unittest.TestCase):

    def test_after_write(self):
        self.assertEqual(after_write(("r", ("a",), (("b", None),), 2)), ("r", ("a",), (("b", None),), 3))
        self.assertEqual(after_write(place=("r", (), (), 0)), ("r", (), (), 1))

    def test_after_read(self):
        self.assertEqual(after_read(("r", ("a",), (), 2), ("b",)), ("r", ("a",), (("b",),), 0))
        self.assertEqual(after_read(place=("r", (), (("b",),), 1), answers=(None, "c")),
                         ("r", (), (("b",), (None, "c")), 0))

    def test_the_same_again(self):
        place = ("r", (), (("b",),), 1)
        self.assertEqual(after_read(place, ("c",)), after_read(place, ("c",)))
        self.assertEqual(after_write(place), after_write(place))
        self.assertEqual(place, ("r", (), (("b",),), 1))


class BehindTest(unittest.TestCase):

    def check(self, place, other, right):
        self.assertIs(is_behind(place, other), right, (place, other))

    def test_counts(self):
        self.check(("r", (), (), 1), ("r", (), (), 0), True)
        self.check(("r", (), (), 0), ("r", (), (), 1), False)
        self.check(("r", (), (("a",),), 7), ("r", (), (("a",),), 3), True)

    def test_the_same_place(self):
        for place in [("r", (), (), 0), ("r", ("a",), (("b",),), 2)]:
            self.check(place, place, False)

    def test_longer_answers(self):
        self.check(("r", (), (("a",),), 0), ("r", (), (), 0), True)
        self.check(("r", (), (("a",), ("b",), (None,)), 0), ("r", (), (("a",),), 0), True)
        self.check(("r", (), (), 0), ("r", (), (("a",),), 0), False)
        self.check(("r", (), (("a",), ("b",)), 0), ("r", (), (("b",),), 0), False)

    def test_the_count_does_not_matter_where_answers_are_longer(self):
        self.check(("r", (), (("a",),), 0), ("r", (), (), 9), True)
        self.check(("r", (), (), 9), ("r", (), (("a",),), 0), False)

    def test_places_that_cannot_both_occur(self):
        self.check(("r", (), (("a",), ("b",)), 0), ("r", (), (("a",),), 5), True)
        self.check(("r", (), (("a", "b"),), 0), ("r", (), (("a",),), 0), False)
        self.check(("r", (), (("a",), ("b", "c")), 0), ("r", (), (("a",),), 0), True)
        self.check(("r", (), (("a",), ("b",), ("c",)), 0), ("r", (), (("a",), ("b", "c")), 0), False)

    def test_another_recipe_or_other_arguments(self):
        self.check(("r", (), (), 1), ("s", (), (), 0), False)
        self.check(("r", ("a",), (), 1), ("r", (), (), 0), False)
        self.check(("r", ("a",), (("x",),), 0), ("r", ("b",), (), 0), False)
        self.check(("r", ("a", "b"), (), 1), ("r", ("a",), (), 0), False)

    def test_none_is_not_the_empty_text(self):
        self.check(("r", (), ((None,), ("a",)), 0), ("r", (), (("",),), 0), False)
        self.check(("r", (), ((None,), ("a",)), 0), ("r", (), ((None,),), 0), True)

    def test_all_pairs_of_small_places(self):
        rows = [("a",), (None,), ("a", None)]
        answers = [tuple(some) for many in range(3) for some in itertools.product(rows, repeat=many)]
        places = [(recipe, (), some, count) for recipe in "rs" for some in answers for count in range(2)]
        for place, other in itertools.product(places, repeat=2):
            shorter, longer = other[2], place[2]
            begins = len(shorter) < len(longer) and longer[:len(shorter)] == shorter
            further = shorter == longer and other[3] < place[3]
            self.check(place, other, place[0] == other[0] and (begins or further))

    def test_by_names(self):
        self.assertIs(is_behind(other=("r", (), (), 0), place=("r", (), (), 1)), True)


class OrderTest(unittest.TestCase):

    def test_recipe_then_arguments_then_answers_then_count(self):
        places = [
            ("", (), (), 0),
            ("a", (), (), 0),
            ("a", (), (), 1),
            ("a", (), (), 10),
            ("a", (), ((None,),), 0),
            ("a", (), ((None,),), 3),
            ("a", (), ((None,), (None,)), 0),
            ("a", (), ((None,), ("",)), 0),
            ("a", (), ((None, None),), 0),
            ("a", (), ((None, ""),), 0),
            ("a", (), (("",),), 0),
            ("a", (), (("", None),), 0),
            ("a", (), ((" ",),), 0),
            ("a", (), (("A",),), 0),
            ("a", (), (("a",),), 0),
            ("a", (), (("a",), (None,)), 0),
            ("a", (), (("a", None),), 0),
            ("a", (), (("aa",),), 0),
            ("a", (), (("b",),), 0),
            ("a", ("",), (), 0),
            ("a", ("a",), (), 5),
            ("a", ("a", "a"), (), 0),
            ("a", ("b",), (), 0),
            ("aa", (), (), 0),
            ("b", (), (), 0),
        ]
        self.assertEqual(in_order(places[::-1]), places)
        self.assertEqual(in_order(tuple(places[1::2] + places[::2])), places)
        for first, second in itertools.combinations(places, 2):
            self.assertEqual(in_order([second, first]), [first, second])

    def test_duplicates_once(self):
        one, two = ("r", (), (), 0), ("r", (), (("a", None),), 0)
        self.assertEqual(in_order([two, one, two, one, one]), [one, two])
        self.assertEqual(in_order([one, ("r", (), (), 0)]), [one])

    def test_empty(self):
        self.assertEqual(in_order([]), [])
        self.assertEqual(in_order(()), [])

    def test_what_is_passed_stays_and_the_list_is_new(self):
        places = [("s", (), (), 0), ("r", (), (), 0)]
        before = list(places)
        made = in_order(places)
        self.assertIsNot(made, places)
        self.assertEqual(places, before)
        made.append(None)
        self.assertEqual(in_order(places), before[::-1])
        right = before[::-1]
        self.assertIsNot(in_order(right), right)
        self.assertIs(type(in_order(tuple(places))), list)

    def test_by_name(self):
        self.assertEqual(in_order(places=(("r", (), (), 0),)), [("r", (), (), 0)])


if __name__ == "__main__":
    unittest.main()
