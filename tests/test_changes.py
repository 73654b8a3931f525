"""Changes: points 2 and 8, and the interface of stage 11 under this file."""

import itertools
import random
import unittest

from farenough.changes import Change, change_between
from farenough.errors import Mismatch
from farenough.projects import Made, Project, Source

ONE, TWO, UP = Source({"a": "1"}), Source({"a": "2"}), Made("up")
TARGETS = [None, ONE, TWO, UP, Made("up", ["v"]), Made(("m", "x")), Source({})]


def project_of(**targets):
    return Project({name: target for name, target in targets.items() if target is not None})


class BetweenTest(unittest.TestCase):

    def test_equal_projects(self):
        for project in [Project({}), project_of(a=ONE, b=UP)]:
            change = change_between(project, Project({name: project[name] for name in project.names}))
            self.assertEqual(len(change), 0)
            self.assertEqual(change.names, ())
            self.assertEqual(change, Change())
            self.assertEqual(change(project), project)

    def test_unlike_projects(self):
        project, other = project_of(a=ONE, b=UP, c=TWO, d=UP), project_of(e=UP, d=UP, c=UP, a=TWO)
        change = change_between(project, other)
        self.assertEqual(change, Change([("a", ONE, TWO), ("b", UP, None), ("c", TWO, UP), ("e", None, UP)]))
        self.assertEqual(change.names, ("a", "b", "c", "e"))
        self.assertEqual(len(change), 4)
        self.assertEqual(change(project), other)
        self.assertEqual(change_between(other, project), ~change)
        self.assertEqual((~change)(other), project)
        self.assertEqual(change_between(project=project, other=other), change)

    def test_equal_targets_made_apart(self):
        project, other = project_of(a=Source({"a": "1", "b": "2"})), project_of(a=Source({"b": "2", "a": "1"}))
        self.assertEqual(len(change_between(project, other)), 0)


class ChangeTest(unittest.TestCase):

    def setUp(self):
        self.parts = [("a", ONE, TWO), ("b", None, UP), ("c", UP, None)]
        self.change = Change(self.parts)
        self.project = project_of(a=ONE, c=UP, z=TWO)

    def test_call(self):
        for _ in range(2):
            self.assertEqual(self.change(self.project), project_of(a=TWO, b=UP, z=TWO))
            self.assertEqual(self.change(project=self.project), project_of(a=TWO, b=UP, z=TWO))
        self.assertEqual(self.project, project_of(a=ONE, c=UP, z=TWO))

    def test_mismatch(self):
        for targets, name in [({}, "a"), ({"a": TWO, "c": UP}, "a"), ({"a": ONE, "b": UP, "c": TWO}, "b"),
                              ({"a": ONE, "c": Made("up", ["v"])}, "c"), ({"a": ONE}, "c"), ({"b": UP}, "a")]:
            with self.assertRaises(Mismatch) as caught:
                self.change(project_of(**targets))
            self.assertEqual(caught.exception.name, name)

    def test_lists_and_tuples(self):
        self.assertEqual(Change(tuple(self.parts)), self.change)
        self.assertEqual(Change(parts=self.parts), self.change)
        self.parts.pop()
        self.assertEqual(len(self.change), 3)
        self.assertEqual(self.change.names, ("a", "b", "c"))

    def test_in_and_names(self):
        for name in "abc":
            self.assertIs(name in self.change, True)
        for name in ["d", "", "z"]:
            self.assertIs(name in self.change, False)
        self.assertEqual(Change().names, ())
        self.assertIs("a" in Change(), False)

    def test_equal(self):
        self.assertEqual(self.change, Change([("a", Source({"a": "1"}), Source({"a": "2"})), *self.parts[1:]]))
        for other in [Change(self.parts[:2]), Change([("a", ONE, UP), *self.parts[1:]]), Change(), tuple(self.parts),
                      self.parts, None]:
            self.assertNotEqual(self.change, other)

    def test_back(self):
        back = ~self.change
        self.assertEqual(back, Change([("a", TWO, ONE), ("b", UP, None), ("c", None, UP)]))
        self.assertEqual(~back, self.change)
        self.assertEqual(back(self.change(self.project)), self.project)
        self.assertEqual(~Change(), Change())


class SumTest(unittest.TestCase):

    def test_parts_of_one_side_only(self):
        one, other = Change([("a", ONE, TWO), ("c", None, UP)]), Change([("b", UP, None), ("d", ONE, UP)])
        parts = [("a", ONE, TWO), ("b", UP, None), ("c", None, UP), ("d", ONE, UP)]
        self.assertEqual(one + other, Change(parts))
        self.assertEqual(other + one, Change(parts))
        self.assertEqual(one + Change(), one)
        self.assertEqual(Change() + one, one)
        self.assertEqual(len(one), 2)

    def test_parts_that_go_on(self):
        one, other = Change([("a", None, ONE), ("b", ONE, UP)]), Change([("a", ONE, TWO), ("b", UP, None)])
        self.assertEqual(one + other, Change([("a", None, TWO), ("b", ONE, None)]))

    def test_parts_that_lead_back(self):
        one = Change([("a", None, ONE), ("b", ONE, UP)])
        self.assertEqual(one + ~one, Change())
        self.assertEqual(one + Change([("a", ONE, None)]), Change([("b", ONE, UP)]))
        self.assertEqual((one + Change([("b", UP, Source({"a": "1"}))])).names, ("a",))

    def test_mismatch(self):
        one = Change([("b", None, ONE), ("c", ONE, UP), ("d", ONE, None)])
        for parts, name in [([("b", None, ONE)], "b"), ([("a", ONE, TWO), ("c", ONE, UP), ("d", ONE, UP)], "c"),
                            ([("b", ONE, TWO), ("c", UP, None), ("d", ONE, UP), ("e", ONE, UP)], "d")]:
            with self.assertRaises(Mismatch) as caught:
                one + Change(parts)
            self.assertEqual(caught.exception.name, name)

    def test_the_same_as_one_behind_the_other(self):
        chance = random.Random(3)
        projects = [project_of(**{name: chance.choice(TARGETS) for name in "abcd"}) for _ in range(25)]
        for first, second, third in itertools.product(projects[:9], projects[9:17], projects[17:]):
            one, other = change_between(first, second), change_between(second, third)
            both = one + other
            self.assertEqual(both, change_between(first, third))
            self.assertEqual(both(first), third)
            self.assertEqual(~both, ~other + ~one)
            wider = first.put("z", UP)
            self.assertEqual(both(wider), other(one(wider)))


if __name__ == "__main__":
    unittest.main()
