"""What a project and a workshop settle: points 9, 10 and 11."""

import itertools
import unittest

from farenough.errors import NoTarget, Stuck
from farenough.meaning import Meaning
from farenough.projects import Made, Project, Source
from farenough.recipes import Recipe, TreeRecipe
from farenough.workshops import Workshop
from plain import Plain
from samples import STOP, read, write
from worlds import World


def copy_of(*keys):
    """A recipe that reads the keys one after the other and then writes the answers to x."""
    node = write("x", tuple((row + 1, 0) for row in range(len(keys))))
    for key in reversed(keys):
        node = read((key,), (), node)
    return TreeRecipe(node)


class MeaningTest(unittest.TestCase):

    def settled(self, meaning, key, answer):
        for _ in range(2):
            self.assertIs(meaning.is_settled(key), True, key)
            self.assertEqual(meaning.answer(key), answer)

    def ring_of(self, project, workshop, meaning, key):
        """The ring of a key that is not settled, checked by the words of points 10 and 11."""
        self.assertIs(meaning.is_settled(key), False, key)
        with self.assertRaises(Stuck) as caught:
            meaning.answer(key)
        ring = caught.exception.ring
        self.assertTrue(Plain(project, workshop.step_at).is_ring(ring, key), (key, ring))
        with self.assertRaises(Stuck) as caught:
            meaning.answer(key)
        self.assertEqual(caught.exception.ring, ring)
        with self.assertRaises(Stuck) as caught:
            Meaning(project, workshop).answer(key)
        self.assertEqual(caught.exception.ring, ring)
        return ring


class SettledTest(MeaningTest):

    def test_sources(self):
        meaning = Meaning(Project({"lib": Source({"a": "1", "b": ""}), "no": Source({})}), Workshop({}))
        self.settled(meaning, ("lib", "a"), "1")
        self.settled(meaning, ("lib", "b"), "")
        self.settled(meaning, ("lib", "c"), None)
        self.settled(meaning, ("no", "a"), None)
        self.assertEqual(meaning.texts(), {("lib", "a"): "1", ("lib", "b"): ""})

    def test_targets_that_are_not_there(self):
        meaning = Meaning(Project({}), Workshop({}))
        self.settled(meaning, ("lib", "a"), None)
        self.assertEqual(meaning.texts(), {})
        meaning = Meaning(Project({"page": Made("page")}), Workshop({"page": copy_of(("lib", "a"))}))
        self.settled(meaning, ("page", "x"), "")

    def test_a_target_that_writes(self):
        node = write("x", ((1, 0), (1, 1), (0, 0)), write("y", ("2",)))
        tree = TreeRecipe(read((("lib", "a"), ("lib", "c")), (), node))
        meaning = Meaning(Project({"lib": Source({"a": "1"}), "page": Made("page", ["!"])}), Workshop({"page": tree}))
        self.settled(meaning, ("page", "x"), "1!")
        self.settled(meaning, ("page", "y"), "2")
        self.settled(meaning, ("page", "z"), None)
        self.assertEqual(meaning.texts(), {("lib", "a"): "1", ("page", "x"): "1!", ("page", "y"): "2"})
        self.assertEqual(meaning.place_of("page"), ("page", ("!",), (("1", None),), 2))

    def test_a_target_that_stops_without_writing(self):
        project = Project({"one": Made("stop"), "two": Made("none"), "three": Made("base")})
        meaning = Meaning(project, Workshop({"stop": TreeRecipe(STOP), "base": Recipe()}))
        for name, recipe in [("one", "stop"), ("two", "none"), ("three", "base")]:
            self.settled(meaning, (name, "x"), None)
            self.assertEqual(meaning.place_of(name), (recipe, (), (), 0))
        self.assertEqual(meaning.texts(), {})

    def test_a_text_that_is_too_long_is_not_written(self):
        tree = TreeRecipe(write("x", ("1",), write("y", ((0, 0), (0, 0)))))
        meaning = Meaning(Project({"page": Made("page", ("a" * 201,))}), Workshop({"page": tree}))
        self.settled(meaning, ("page", "x"), "1")
        self.settled(meaning, ("page", "y"), None)
        self.assertEqual(meaning.place_of("page"), ("page", ("a" * 201,), (), 1))

    def test_answers_decide_the_way(self):
        tree = TreeRecipe(read((("lib", "a"),), (((None,), write("none")), (("",), write("empty"))), write("other")))
        for outputs, name in [({}, "none"), ({"a": ""}, "empty"), ({"a": "b"}, "other")]:
            meaning = Meaning(Project({"lib": Source(outputs), "page": Made("page")}), Workshop({"page": tree}))
            for output in ["none", "empty", "other"]:
                self.settled(meaning, ("page", output), "" if output == name else None)

    def test_one_recipe_with_several_arguments(self):
        tree = TreeRecipe(write("x", ((0, 0), (0, 1), (0, 2), (0, 3))))
        project = Project({"a": Made("r"), "b": Made("r", ("1",)), "c": Made("r", ("1", "2", "3", "4"))})
        meaning = Meaning(project, Workshop({"r": tree}))
        self.assertEqual(meaning.texts(), {("a", "x"): "", ("b", "x"): "1", ("c", "x"): "1234"})

    def test_targets_that_read_one_another_and_do_not_wait_in_a_ring(self):
        one = TreeRecipe(write("x", ("1",), read((("two", "y"),), (), write("z", ((1, 0), "3")))))
        two = TreeRecipe(read((("one", "x"),), (), write("y", ((1, 0), "2"), read((("one", "z"),), (), write(
            "w", ((2, 0), "4"))))))
        for names in [("one", "two"), ("two", "one")]:
            project = Project({name: Made(name) for name in names})
            meaning = Meaning(project, Workshop({"one": one, "two": two}))
            self.assertEqual(meaning.texts(), {("one", "x"): "1", ("one", "z"): "123", ("two", "y"): "12",
                                               ("two", "w"): "1234"})

    def test_a_target_that_reads_what_it_wrote(self):
        tree = TreeRecipe(write("x", ("1",), read((("page", "x"),), (), write("y", ((1, 0), "2")))))
        meaning = Meaning(Project({"page": Made("page")}), Workshop({"page": tree}))
        self.settled(meaning, ("page", "y"), "12")

    def test_long_chains(self):
        recipes = {"r0": copy_of(("lib", "a"))}
        recipes.update({f"r{at}": copy_of((f"t{at - 1}", "x")) for at in range(1, 11)})
        for order in [range(11), reversed(range(11))]:
            targets = {f"t{at}": Made(f"r{at}") for at in order}
            targets["lib"] = Source({"a": "1"})
            meaning = Meaning(Project(targets), Workshop(recipes))
            self.settled(meaning, ("t10", "x"), "1")

    def test_runs_of_many_steps(self):
        node = STOP
        for at in reversed(range(30)):
            node = read((("other", f"o{at}"),), (), write(f"o{at}", ((at + 1, 0), "."), node))
        other = STOP
        for at in reversed(range(30)):
            other = write(f"o{at}", ("a",) if at == 0 else ((at, 0),), read((("page", f"o{at}"),), (), other))
        project = Project({"page": Made("page"), "other": Made("other")})
        meaning = Meaning(project, Workshop({"page": TreeRecipe(node), "other": TreeRecipe(other)}))
        self.settled(meaning, ("page", "o29"), "a" + "." * 30)


class RecipeKeyTest(MeaningTest):

    def setUp(self):
        self.workshop = Workshop({"hello": TreeRecipe(write("x", ("hello", (0, 0)))), "name": TreeRecipe(
            write("x", ("hello",))), "wait": copy_of(("ring", "x")), "none": TreeRecipe(STOP)})

    def meaning(self, targets):
        self.project = Project(targets)
        return Meaning(self.project, self.workshop)

    def test_settled_as_the_name_of_a_recipe(self):
        meaning = self.meaning({"lib": Source({"a": "hello"}), "page": Made(("lib", "a"), ("!",))})
        self.settled(meaning, ("page", "x"), "hello!")
        self.settled(meaning, ("page", "y"), None)
        self.assertEqual(meaning.place_of("page"), ("hello", ("!",), (), 1))

    def test_settled_by_a_made_target(self):
        meaning = self.meaning({"page": Made(("which", "x")), "which": Made("name")})
        self.settled(meaning, ("page", "x"), "hello")

    def test_settled_by_a_target_that_itself_has_a_recipe_key(self):
        meaning = self.meaning({"a": Made(("b", "x")), "b": Made(("c", "x")), "c": Made(("lib", "a")),
                                "lib": Source({"a": "name"})})
        self.settled(meaning, ("c", "x"), "hello")
        self.settled(meaning, ("b", "x"), "hello")
        self.settled(meaning, ("a", "x"), "hello")

    def test_settled_as_a_text_without_a_recipe(self):
        for text in ["", "other", "HELLO", "a b"]:
            meaning = self.meaning({"lib": Source({"a": text}), "page": Made(("lib", "a"), ("!",))})
            self.settled(meaning, ("page", "x"), None)
            self.assertEqual(meaning.place_of("page"), (text, ("!",), (), 0))

    def test_settled_as_none(self):
        for key in [("lib", "b"), ("no", "a"), ("stops", "x"), ("none", "x")]:
            meaning = self.meaning({"lib": Source({"a": "hello"}), "page": Made(key), "stops": Made("none"),
                                    "none": Made(("lib", "b")), "on": Made(("page", "x"))})
            for name in ["page", "on"]:
                self.settled(meaning, (name, "x"), None)
                self.settled(meaning, (name, "y"), None)
                self.assertIs(meaning.place_of(name), None)

    def test_not_settled(self):
        meaning = self.meaning({"ring": Made("wait"), "page": Made(("ring", "x"))})
        for key in [("page", "x"), ("page", "y"), ("ring", "x"), ("ring", "z")]:
            self.assertIs(meaning.is_settled(key), False)
            self.assertEqual(self.ring_of(self.project, self.workshop, meaning, key), (("ring", "x"),))
        self.assertIs(meaning.place_of("page"), None)
        self.assertEqual(meaning.place_of("ring"), ("wait", (), (), 0))


class StuckTest(MeaningTest):

    def rings(self, targets, recipes, keys):
        self.project, workshop = Project(targets), Workshop(recipes)
        self.meaning = Meaning(self.project, workshop)
        return [self.ring_of(self.project, workshop, self.meaning, key) for key in keys]

    def check(self, targets, recipes, key, members):
        ring, = self.rings(targets, recipes, [key])
        self.assertIn(ring, [tuple(members[at:] + members[:at]) for at in range(len(members))])

    def test_a_ring_of_one_key(self):
        own = TreeRecipe(read((("a", "x"),), (), write("x")))
        self.check({"a": Made("r")}, {"r": own}, ("a", "x"), [("a", "x")])
        self.check({"a": Made("r")}, {"r": own}, ("a", "y"), [("a", "x")])

    def test_a_ring_of_one_key_that_is_its_own_recipe_key(self):
        self.check({"a": Made(("a", "x"))}, {}, ("a", "x"), [("a", "x")])
        self.check({"a": Made(("a", "x"))}, {}, ("a", "y"), [("a", "x")])

    def test_a_ring_of_several_keys(self):
        recipes = {"one": copy_of(("b", "x")), "two": copy_of(("c", "x")), "three": copy_of(("a", "x"))}
        targets = {"a": Made("one"), "b": Made("two"), "c": Made("three")}
        for key in [("a", "x"), ("b", "x"), ("c", "x"), ("c", "z")]:
            self.check(targets, recipes, key, [("a", "x"), ("b", "x"), ("c", "x")])
        self.assertEqual(self.meaning.place_of("a"), ("one", (), (), 0))

    def test_a_ring_that_goes_over_a_recipe_key(self):
        recipes = {"one": copy_of(("b", "y"))}
        targets = {"a": Made("one"), "b": Made(("a", "x"))}
        for key in [("a", "x"), ("b", "y"), ("b", "x"), ("a", "z")]:
            self.check(targets, recipes, key, [("a", "x"), ("b", "y")])
        self.assertIs(self.meaning.place_of("b"), None)

    def test_a_ring_of_recipe_keys_alone(self):
        targets = {"a": Made(("b", "x")), "b": Made(("c", "y")), "c": Made(("a", "z"))}
        self.check(targets, {}, ("b", "w"), [("a", "z"), ("b", "x"), ("c", "y")])

    def test_a_key_that_only_waits_for_a_ring(self):
        recipes = {"own": copy_of(("b", "x")), "on": copy_of(("lib", "a"), ("b", "x")), "far": copy_of(("a", "x"))}
        targets = {"a": Made("on"), "b": Made("own"), "c": Made("far"), "d": Made(("c", "x"))}
        targets["lib"] = Source({"a": "1"})
        for key in [("a", "x"), ("c", "x"), ("d", "y"), ("b", "x")]:
            self.check(targets, recipes, key, [("b", "x")])
        self.assertEqual(self.meaning.place_of("a"), ("on", (), (("1",),), 0))
        self.assertEqual(self.meaning.texts(), {("lib", "a"): "1"})

    def test_a_target_of_a_ring_that_wrote_another_output(self):
        tree = TreeRecipe(write("x", ("1",), read((("a", "y"), ("a", "x")), (), write("y"))))
        self.check({"a": Made("r")}, {"r": tree}, ("a", "y"), [("a", "y")])
        self.settled(self.meaning, ("a", "x"), "1")
        self.assertEqual(self.meaning.place_of("a"), ("r", (), (), 1))

    def test_a_read_of_several_keys_of_which_one_is_not_settled(self):
        keys = [("lib", "a"), ("lib", "b"), ("b", "x"), ("none", "x")]
        recipes = {"own": copy_of(("b", "x"))}
        for order in itertools.permutations(keys):
            recipes["many"] = TreeRecipe(read(order, (), write("x")))
            targets = {"a": Made("many"), "b": Made("own"), "lib": Source({"a": "1"})}
            self.check(targets, recipes, ("a", "x"), [("b", "x")])
            self.assertEqual(self.meaning.place_of("a"), ("many", (), (), 0))

    def test_a_read_of_keys_of_two_rings(self):
        recipes = {"a": TreeRecipe(read((("lib", "a"), ("b", "x"), ("c", "x")))), "b": copy_of(("b", "x")),
                   "c": copy_of(("c", "x"))}
        rings = self.rings({name: Made(name) for name in "abc"}, recipes, [("a", "x"), ("b", "x"), ("c", "x")])
        self.assertIn(rings[0], [(("b", "x"),), (("c", "x"),)])
        self.assertEqual(rings[1:], [(("b", "x"),), (("c", "x"),)])

    def test_the_order_in_which_targets_were_put_in_means_nothing(self):
        recipes = {"a": TreeRecipe(read((("b", "x"), ("c", "x")))), "b": TreeRecipe(read((("c", "x"), ("a", "x")))),
                   "c": TreeRecipe(read((("a", "x"), ("b", "x"))))}
        rings = set()
        for order in itertools.permutations("abc"):
            rings.add(tuple(self.rings({name: Made(name) for name in order}, recipes, [(name, "x") for name in "abc"])))
        self.assertEqual(len(rings), 1)

    def test_the_rest_is_settled_beside_a_ring(self):
        recipes = {"own": copy_of(("b", "x")), "on": copy_of(("lib", "a"))}
        self.rings({"b": Made("own"), "c": Made("on"), "lib": Source({"a": "1"})}, recipes, [("b", "x")])
        self.settled(self.meaning, ("c", "x"), "1")


class InterfaceTest(MeaningTest):

    def setUp(self):
        recipes = {"ends": copy_of(("lib", "a")), "waits": copy_of(("lib", "a"), ("waits", "x"))}
        self.workshop = Workshop(recipes)
        self.project = Project({"lib": Source({"a": "1"}), "ends": Made("ends"), "waits": Made("waits", ("q",)),
                                "none": Made(("lib", "b")), "later": Made(("waits", "x"))})
        self.meaning = Meaning(self.project, self.workshop)

    def test_place_of(self):
        self.assertEqual(self.meaning.place_of("ends"), ("ends", (), (("1",),), 1))
        self.assertEqual(self.meaning.place_of("waits"), ("waits", ("q",), (("1",),), 0))
        self.assertIs(self.meaning.place_of("none"), None)
        self.assertIs(self.meaning.place_of("later"), None)

    def test_place_of_what_is_not_made(self):
        for name in ["lib", "other", "x"]:
            with self.assertRaises(NoTarget) as caught:
                self.meaning.place_of(name)
            self.assertEqual(caught.exception.name, name)

    def test_texts_are_a_new_dict(self):
        texts = {("lib", "a"): "1", ("ends", "x"): "1"}
        taken = self.meaning.texts()
        self.assertEqual(taken, texts)
        taken.clear()
        taken[("waits", "x")] = "2"
        self.assertEqual(self.meaning.texts(), texts)
        self.assertIs(self.meaning.is_settled(("waits", "x")), False)
        self.settled(self.meaning, ("lib", "a"), "1")

    def test_nothing_that_is_passed_is_changed(self):
        project = Project({name: self.project[name] for name in self.project.names})
        Meaning(self.project, self.workshop).texts()
        self.assertEqual(self.project, project)
        self.assertEqual(self.workshop.begin("ends").trail, ())

    def test_the_same_again(self):
        again = Meaning(self.project, self.workshop)
        self.assertEqual(again.texts(), self.meaning.texts())
        for name in ["ends", "waits", "none", "later"]:
            self.assertEqual(again.place_of(name), self.meaning.place_of(name))

    def test_by_names(self):
        meaning = Meaning(project=self.project, workshop=self.workshop)
        self.assertIs(meaning.is_settled(key=("ends", "x")), True)
        self.assertEqual(meaning.answer(key=("ends", "x")), "1")
        self.assertEqual(meaning.place_of(name="ends"), ("ends", (), (("1",),), 1))

    def test_methods_stand_in_the_class_itself(self):
        for name in ["is_settled", "answer", "texts", "place_of"]:
            self.assertIn(name, vars(Meaning))

    def test_equal_to_no_value_of_another_class(self):
        for value in [None, {}, (), 0, self.project, self.meaning.texts()]:
            self.assertIs(self.meaning == value, False)


class ChanceTest(MeaningTest):
    """Many small projects, each compared with the rules of point 9 carried out in the plainest way."""

    def test_many_projects(self):
        world, stuck = World(2026, [("r1", "no")]), 0
        for _ in range(1500):
            workshop, project = world.workshop(), world.project()
            stuck += self.compare(project, workshop)
        self.assertGreater(stuck, 1000)

    def compare(self, project, workshop):
        meaning, plain, stuck = Meaning(project, workshop), Plain(project, workshop.step_at), 0
        for name in project.names:
            if isinstance(project[name], Made):
                self.assertEqual(meaning.place_of(name), plain.ends[name])
        self.assertEqual(meaning.texts(), plain.texts)
        for key in World.KEYS:
            if plain.is_settled(key):
                self.settled(meaning, key, plain.answer(key))
            else:
                self.ring_of(project, workshop, meaning, key)
                stuck += 1
        return stuck


if __name__ == "__main__":
    unittest.main()
