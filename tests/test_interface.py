"""The interface of DOC.md as a whole: where each name is defined, and the parameters by their names (point 20)."""

import importlib
import inspect
import pathlib
import unittest

PACKAGE = pathlib.Path(__file__).resolve().parent.parent / "farenough"
# For each module its functions, and its classes with their methods, as calls that are written out. `name` alone is a
# property. `()` of a class is how it is made.
INTERFACE = {
    "steps": ["is_key(value)", "is_step(value)", "is_place(value)", "after_write(place)", "after_read(place, answers)",
              "is_behind(place, other)", "in_order(places)"],
    "recipes": ["Recipe: () step_at(arguments, answers, count)", "TreeRecipe: (node) node __eq__(other)"],
    "runs": ["Run: (name, recipe, arguments=()) place step __call__(answers=()) copied() trail"],
    "workshops": ["Workshop: (recipes) __contains__(x) __len__() step_at(place) begin(name, arguments=()) "
                  "changed(name, recipe)"],
    "projects": ["Target: ()", "Source: (outputs) outputs __eq__(other)",
                 "Made: (recipe, arguments=()) recipe arguments __eq__(other)",
                 "Project: (targets) __getitem__(at) __contains__(x) __len__() __eq__(other) names put(name, target) "
                 "without(name) write(name, output, text) erase(name, output)"],
    "meaning": ["Meaning: (project, workshop) is_settled(key) answer(key) texts() place_of(name)"],
    "records": ["Record: (steps=()) __contains__(x) __len__() __eq__(other) __getitem__(at) is_within(other) __or__(other) "
                "__and__(other) __sub__(other) without(place) steps() ends() __bool__()"],
    "walks": ["walk(project, record, key)", "open_places(project, record, keys)", "demand(project, record, key)",
              "need(project, record, key)"],
    "engine": ["Engine: (workshop, *, record=None) ask(project, key) __call__(project, key) steps(project, key) "
               "pursue(project, keys) record news replays close() __len__()"],
    "papers": ["paper(project, record, key, place)",
               "Paper: (place, counter) place counter __eq__(other) holds(project, record, key)"],
    "programs": ["Program: read(text) text arguments functions __eq__(other)"],
    "machines": ["compiled(program)", "Machine: (rows, arguments) step __call__(answers=()) copied()",
                 "ProgramRecipe: (program) program step_at(arguments, answers, count) __eq__(other)"],
    "halfdone": ["ProgramRun: (name, program, arguments=()) copied() saved() restored(program, saved)"],
    "futures": ["future(project, record, key)", "Future: () holds(project, record, key)",
                "Sure: (outcome) __eq__(other) holds(project, record, key)",
                "Never: (way) __eq__(other) holds(project, record, key)",
                "Open: (places) __eq__(other) holds(project, record, key)", "come_to(project, record, key, answer)"],
    "causes": ["causes(project, record, key)", "way_to(project, record, key, cause)",
               "swayed(project, record, key, cause, text)"],
    "keeping": ["serves(record, asks)", "least(record, asks)", "idle(record, asks)", "price(kept, record, asks)",
                "keep(record, asks, many)"],
    "workers": ["shift(project, workshop, record, keys, *, workers=1, times=None, guess=False)",
                "Shift: events last end record needless news answer(key)",
                "far_end(project, workshop, record, keys, *, times=None)"],
    "changes": ["Change: (parts=()) __call__(project) __invert__() __add__(other) __len__() __contains__(x) names "
                "__eq__(other)", "change_between(project, other)"],
    "histories": ["History: (project) commit(parent, project) __getitem__(at) __contains__(x) __len__() parents(number) "
                  "base(one, other) merge(one, other) trunk(number)", "turning(engine, projects, key)"],
    "sessions": ["Session: (workshop, project, *, record=None) project record put(name, target) without(name) "
                 "write(name, output, text) erase(name, output) ask(key) undo() log() attempt(deeds, *, keep=True)"],
    "journals": ["Journal: (text='') text is_torn record add(place, step) keep(record) packed() __len__() __eq__(other)"],
    "desk": ["Desk: () say(row)"],
}


def parts_of(text):
    """The pieces of a row between spaces that do not stand in parentheses."""
    parts, depth, part = [], 0, ""
    for sign in text + " ":
        depth += (sign == "(") - (sign == ")")
        if sign == " " and not depth:
            parts.append(part)
            part = ""
        else:
            part += sign
    return parts


class InterfaceTest(unittest.TestCase):

    def check_parameters(self, function, shown, skipped):
        parameters = list(inspect.signature(function).parameters.values())[skipped:]
        self.assertEqual(str(inspect.Signature(parameters)), shown)

    def check_class(self, found, told):
        for part in parts_of(told):
            name, bracket, rest = part.partition("(")
            shown = bracket + rest
            if not shown:
                self.assertIsInstance(vars(found)[name], property, name)
            elif not name:
                parameters = inspect.signature(found.__init__) if "__init__" in vars(found) else inspect.Signature()
                listed = [each for each in parameters.parameters.values() if each.name != "self"]
                self.assertEqual(str(inspect.Signature(listed)), shown)
            elif isinstance(vars(found)[name], classmethod):
                self.check_parameters(getattr(found, name), shown, 0)
            else:
                self.check_parameters(vars(found)[name], shown, 1)

    def test_each_name(self):
        for name, rows in INTERFACE.items():
            module = importlib.import_module(f"farenough.{name}")
            for row in rows:
                title, colon, told = row.partition(": ")
                title = title if colon else row.partition("(")[0]
                found = getattr(module, title)
                self.assertEqual(found.__module__, module.__name__)
                with self.subTest(row):
                    if colon:
                        self.check_class(found, told)
                    else:
                        self.check_parameters(found, row[len(title):], 0)

    def test_the_package_itself_is_empty(self):
        self.assertEqual(inspect.getdoc(importlib.import_module("farenough")) is not None, True)
        self.assertEqual(len(PACKAGE.joinpath("__init__.py").read_text().strip().split("\n")), 1)


if __name__ == "__main__":
    unittest.main()
