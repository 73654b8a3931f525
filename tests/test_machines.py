"""Machines and the recipes of programs, as stage 8 tells them."""

import itertools
import random
import unittest

from farenough.engine import Engine
from farenough.errors import BuildError, Halted
from farenough.machines import Machine, ProgramRecipe, compiled
from farenough.programs import Program
from farenough.projects import Made, Project, Source
from farenough.recipes import Recipe, TreeRecipe
from farenough.workshops import Workshop
from plainrows import PlainMachine
from samples import STOP, read, write
from scripts import TEXTS, Script

A, B = ("src", "a"), ("src", "b")
WRITE = ("write",)


def push(*values):
    return [("push", value) for value in values]


class MachineTest(unittest.TestCase):

    def machine(self, rows, arguments=()):
        rows = rows + [("stop",)]
        for kind in (list, tuple):
            for other in (list, tuple):
                machine = Machine(kind(rows), other(arguments))
        return machine

    def writes(self, rows, text, arguments=()):
        """Rows after which the text stands at the end of the stack."""
        machine = self.machine([("push", "o"), *rows, WRITE], arguments)
        self.assertEqual(machine.step, ("write", "o", text))
        machine()
        self.assertEqual(machine.step, STOP)

    def number(self, rows, number, arguments=()):
        self.writes([*rows, ("op", "digits")], str(number), arguments)

    def stops(self, rows, arguments=()):
        """Rows that come to a fault: the write behind them is not reached."""
        self.assertEqual(self.machine([*rows, *push("o", "t"), WRITE], arguments).step, STOP)

    def goes_on(self, rows, arguments=()):
        self.assertEqual(self.machine([*rows, *push("o", "t"), WRITE], arguments).step, ("write", "o", "t"))


class RowsTest(MachineTest):

    def test_push_load_and_store(self):
        self.writes(push("a"), "a")
        self.writes([("load", 1)], "b", ("a", "b"))
        self.writes([*push("c"), ("store", 0), ("load", 0)], "c", ("a", "b"))
        self.writes([*push("c"), ("store", 7), ("load", 1), ("load", 7), ("op", "&")], "bc", ("a", "b"))
        self.writes([*push("x", "y"), ("store", 0), ("load", 0), ("op", "&")], "xy")

    def test_operators(self):
        for name, left, right, number in [("+", 7, 2, 9), ("-", 7, 2, 5), ("*", 7, 2, 14), ("/", 7, 2, 3), ("/", -7, 2, -4),
                                          ("mod", 7, 2, 1), ("mod", -7, 2, 1), ("mod", 7, -2, -1)]:
            self.number([*push(left, right), ("op", name)], number)
        self.number([*push(1, 7), ("op", "neg"), ("op", "+")], -6)
        self.writes([*push("a", "b"), ("op", "&")], "ab")
        self.number([*push(("a",), ("b", "c")), ("op", "&"), ("op", "size")], 3)
        self.writes([*push(None, "b"), ("op", "else")], "b")
        self.writes([*push("a", "b"), ("op", "else")], "a")

    def test_functions(self):
        for rows, text in [([*push("abcd", 1, 3), ("op", "part")], "bc"), ([*push(("a", "b"), "-"), ("op", "join")], "a-b"),
                           ([*push(("a", "b"), 1), ("op", "item")], "b"), ([*push("ab", 2), ("op", "times")], "abab"),
                           ([*push("a,b", ","), ("op", "split"), *push("|"), ("op", "join")], "a|b"),
                           ([*push(("b", "a")), ("op", "sorted"), *push("|"), ("op", "join")], "a|b"),
                           ([*push(("a", "b")), ("op", "turned"), *push("|"), ("op", "join")], "b|a")]:
            self.writes(rows, text)
            self.writes([*push("below"), *rows, ("op", "&")], "below" + text)
        for rows, number in [([*push("abc"), ("op", "size")], 3), ([*push(("a",)), ("op", "size")], 1),
                             ([*push("abc", "c"), ("op", "find")], 2), ([*push("-12"), ("op", "value")], -12)]:
            self.number(rows, number)
            self.number([*push(100), *rows, ("op", "+")], 100 + number)

    def test_list(self):
        self.writes([*push("a", "b", "c"), ("list", 3), *push("|"), ("op", "join")], "a|b|c")
        self.writes([*push("a", "b", "c"), ("list", 2), *push("|"), ("op", "join"), ("op", "&")], "ab|c")
        self.number([("list", 0), ("op", "size")], 0)
        self.goes_on([*push(*["a"] * 60), ("list", 60)])
        self.stops([*push(*["a"] * 61), ("list", 61)])

    def branch(self, rows, truth):
        begin = len(rows) + 1
        rows = [("push", "o"), *rows, ("unless", begin + 3), ("push", "yes"), ("jump", begin + 4), ("push", "no"), WRITE]
        self.assertEqual(self.machine(rows).step, ("write", "o", "yes" if truth else "no"))

    def test_tests(self):
        for left, right in [("a", "a"), ("a", "b"), ("b", "a"), (1, 1), (1, 2), (2, 1), (10, 9)]:
            for name, truth in [("=", left == right), ("!=", left != right), ("<", left < right), ("<=", left <= right),
                                (">", left > right), (">=", left >= right)]:
                self.branch([*push(left, right), ("test", name)], truth)
                self.branch([*push(left, right), ("test", name), ("test", "not")], not truth)
        for left, right, truth in [(("a",), ("a",), True), (("a",), ("b",), False), ((), (), True)]:
            self.branch([*push(left, right), ("test", "=")], truth)
            self.branch([*push(left, right), ("test", "!=")], not truth)
        for left, right, truth in [("a", "ba", True), ("a", ("ba",), False), ("a", ("b", "a"), True), ("", "", True)]:
            self.branch([*push(left, right), ("test", "in")], truth)
        for value, truth in [("", True), ("a", True), (None, False)]:
            self.branch([*push(value), ("test", "known")], truth)
        self.branch(push(True), True)
        self.branch(push(False), False)
        self.branch([*push(False), ("test", "not")], True)

    def test_a_branch_and_a_loop_with_values_below(self):
        rows = [("push", "o"), ("push", ""), ("push", "x"), ("op", "&"), ("load", 0), ("push", 1), ("op", "-"), ("store", 0),
                ("load", 0), ("push", 0), ("test", ">"), ("unless", 13), ("jump", 2), WRITE]
        self.assertEqual(self.machine(rows, [4]).step, ("write", "o", "xxxx"))

    def test_jump(self):
        self.assertEqual(self.machine([("jump", 2), ("stop",), *push("o", "t"), WRITE]).step, ("write", "o", "t"))
        self.assertEqual(self.machine([("jump", 4), *push("o", "t"), WRITE, ("jump", 1)]).step, ("write", "o", "t"))

    def test_turn(self):
        self.goes_on([("turn",)] * 300)
        self.stops([("turn",)] * 301)
        self.stops([("turn",), ("jump", 0)])

    def test_turns_begin_anew_behind_a_step(self):
        rows = [("turn",)] * 300
        machine = self.machine([*rows, *push("o", "t"), WRITE, *rows, *push("src", "a"), ("read", 1), *rows, *push("p"),
                                ("push", "u"), WRITE, *rows, ("turn",), *push("q", "v"), WRITE])
        steps = []
        while machine.step != STOP:
            steps.append(machine.step)
            machine(("x",) if machine.step[0] == "read" else ())
        self.assertEqual(steps, [("write", "o", "t"), ("read", (A,)), ("write", "p", "u")])

    def test_call_and_return(self):
        rows = [("jump", 5), ("load", 1), ("load", 0), ("op", "&"), ("return",), *push("o", "below", "a", "b"), ("call", 1, 2),
                ("op", "&"), WRITE]
        self.assertEqual(self.machine(rows).step, ("write", "o", "belowba"))

    def test_a_frame_has_variables_of_its_own(self):
        rows = [("jump", 4), *push("inner"), ("store", 0), ("return",), *push("outer"), ("store", 0), ("call", 1, 0), *push("o"),
                ("load", 0), WRITE]
        self.assertEqual(self.machine(rows).step, ("write", "o", "outer"))

    def test_calls_within_calls(self):
        rows = [("jump", 9), ("load", 0), ("push", "!"), ("op", "&"), ("return",),
                ("load", 0), ("call", 1, 1), ("call", 1, 1), ("return",),
                *push("o", "a"), ("call", 5, 1), WRITE]
        self.assertEqual(self.machine(rows).step, ("write", "o", "a!!"))

    def test_a_call_that_leaves_values(self):
        rows = [("jump", 4), *push("x", "y"), ("return",), *push("o"), ("call", 1, 0), ("op", "&"), WRITE]
        self.assertEqual(self.machine(rows).step, ("write", "o", "xy"))

    def test_turns_in_calls(self):
        rows = [("jump", 3), ("turn",), ("return",)]
        for many, step in [(300, ("write", "o", "t")), (301, STOP)]:
            self.assertEqual(self.machine([*rows, *[("call", 1, 0)] * many, *push("o", "t"), WRITE]).step, step)


class StepsTest(MachineTest):

    def test_a_read(self):
        machine = self.machine([*push("below", "src", "a", "src", "b"), ("read", 2), ("store", 0), ("store", 1), *push("o"),
                                ("load", 0), *push("-"), ("op", "else"), ("load", 1), *push("-"), ("op", "else"), ("op", "&"),
                                WRITE, ("store", 3), *push("p"), ("load", 3), WRITE])
        self.assertEqual(machine.step, ("read", (A, B)))
        self.assertIs(machine(("1", None)), None)
        self.assertEqual(machine.step, ("write", "o", "1-"))
        machine()
        self.assertEqual(machine.step, ("write", "p", "below"))
        machine(())
        self.assertEqual(machine.step, STOP)

    def test_four_answers(self):
        rows = [*push("t", "a", "t", "b", "t", "c", "t", "d"), ("read", 4), ("list", 4), *push("|"), ("op", "join"), ("store", 0),
                *push("o"), ("load", 0), WRITE]
        machine = self.machine(rows)
        self.assertEqual(machine.step, ("read", (("t", "a"), ("t", "b"), ("t", "c"), ("t", "d"))))
        machine(answers=("1", "2", "3", "4"))
        self.assertEqual(machine.step, ("write", "o", "4|3|2|1"))

    def test_reads_that_may_not_be_taken(self):
        for name in ["", "A", "1a", "a b", "abcdefghi"]:
            self.stops([*push(name, "a"), ("read", 1)])
            self.stops([*push("a", name), ("read", 1)])
            self.stops([*push("a", "b", "a", name), ("read", 2)])
        self.stops([*push("a", "b", "a", "b"), ("read", 2)])

    def test_writes_that_may_not_be_taken(self):
        for name in ["", "A", "1a", "a b", "abcdefghi"]:
            self.stops([*push(name, "t"), WRITE])
        machine = self.machine([*push("a", "1"), WRITE, *push("b", "1"), WRITE, *push("a", "2"), WRITE])
        machine()
        self.assertEqual(machine.step, ("write", "b", "1"))
        machine()
        self.assertEqual(machine.step, STOP)

    def test_faults(self):
        most = 10 ** 12
        for rows in [[*push(1, 0), ("op", "/")], [*push(1, 0), ("op", "mod")], [*push(most, 1), ("op", "+")],
                     [*push(-most, 1), ("op", "-")], [*push(most, 2), ("op", "*")], [*push("a" * 400, "a"), ("op", "&")],
                     [*push("a", 401), ("op", "times")], [*push("a", most), ("op", "times")],
                     [*push(("a",) * 60, ("a",)), ("op", "&")], [*push("a" * 61, ""), ("op", "split")],
                     [*push(("a" * 200, "a" * 200), "b"), ("op", "join")]]:
            self.stops(rows)
        for rows in [[*push(most, 0), ("op", "+")], [*push(-most, 0), ("op", "-")], [*push("a" * 399, "a"), ("op", "&")],
                     [*push("a", 400), ("op", "times")], [*push(("a",) * 59, ("a",)), ("op", "&")],
                     [*push("a" * 60, ""), ("op", "split")]]:
            self.goes_on(rows)

    def test_halted_again_and_again(self):
        for machine in [Machine([("stop",)], []), Machine(push(1, 0) + [("op", "/")], ())]:
            for _ in range(3):
                self.assertEqual(machine.step, STOP)
                self.assertRaises(Halted, machine)
                self.assertRaises(Halted, machine, ("a",))
            self.assertRaises(Halted, machine.copied())

    def test_copies_go_on_apart(self):
        rows = [("jump", 9), ("load", 0), ("push", "!"), ("op", "&"), ("return",), ("stop",), ("stop",), ("stop",), ("stop",),
                *push("below"), ("turn",), *push("a", "1"), WRITE, *push("src", "a"), ("read", 1), ("store", 1), *push("b"),
                ("load", 1), ("call", 1, 1), WRITE, ("store", 2), *push("c"), ("load", 2), WRITE, ("stop",)]
        machine = Machine(rows, ("x",))
        one = machine.copied()
        machine()
        self.assertEqual((machine.step, one.step), (("read", (A,)), ("write", "a", "1")))
        two = machine.copied()
        machine(("m",))
        two(("n",))
        self.assertEqual((machine.step, two.step, one.step), (("write", "b", "m!"), ("write", "b", "n!"), ("write", "a", "1")))
        one()
        self.assertEqual(one.step, ("read", (A,)))
        for other in [machine, two]:
            other()
            self.assertEqual(other.step, ("write", "c", "below"))
        one(("o",))
        self.assertEqual(one.step, ("write", "b", "o!"))

    def test_what_is_passed_stays_and_may_be_changed(self):
        rows, arguments = [("load", 0), *push("src", "a"), ("read", 1), ("store", 0), *push("p"), ("load", 0), WRITE, ("stop",)], ["x"]
        before = list(rows)
        machine = Machine(rows, arguments)
        self.assertEqual((rows, arguments), (before, ["x"]))
        arguments[0] = "y"
        rows[4:] = [("stop",)]
        machine(("z",))
        self.assertEqual(machine.step, ("write", "p", "z"))

    def test_interface(self):
        machine = Machine(rows=[*push("a", "b"), ("read", 1), ("stop",)], arguments=[])
        self.assertEqual(machine.step, ("read", (("a", "b"),)))
        machine(answers=("1",))
        self.assertEqual(machine.step, STOP)
        for name in ["step", "__call__", "copied"]:
            self.assertIn(name, vars(Machine))


class CompiledTest(MachineTest):

    FORMS = {"push": 2, "load": 2, "store": 2, "op": 2, "list": 2, "test": 2, "jump": 2, "unless": 2, "turn": 1, "call": 3,
             "return": 1, "read": 2, "write": 1, "stop": 1}

    def check_rows(self, rows):
        self.assertIs(type(rows), tuple)
        for row in rows:
            self.assertIs(type(row), tuple)
            self.assertEqual(len(row), self.FORMS[row[0]])

    def test_by_the_rules_of_the_table(self):
        taken = 0
        for seed in range(2000, 2400):
            script, chance = Script(seed), random.Random(seed)
            program = Program.read(script.text())
            rows = compiled(program)
            self.check_rows(rows)
            arguments = [chance.choice(TEXTS) for _ in program.arguments]
            machine, plain = Machine(rows, arguments), PlainMachine(rows, arguments)
            recipe = ProgramRecipe(program)
            count, given = 0, []
            for _ in range(60):
                self.assertEqual(machine.step, plain.step)
                if machine.step == STOP:
                    break
                self.assertEqual(recipe.step_at(tuple(arguments), tuple(given), count), plain.step)
                answers = tuple(chance.choice(TEXTS + [None]) for _ in machine.step[1]) if machine.step[0] == "read" else ()
                count, given = (0, given + [answers]) if answers else (count + 1, given)
                machine(answers)
                plain.go_on(answers)
                taken += 1
        self.assertGreater(taken, 300)

    def test_the_same_again(self):
        program = Program.read(Script(5).text())
        self.assertEqual(compiled(program), compiled(program))
        self.assertEqual(compiled(Program.read(program.text)), compiled(program=program))

    def fill(self, head, *bodies):
        """As many of these lines as 4,000 characters hold."""
        text = head
        for body in itertools.cycle(bodies):
            if len(text) + len(body) > 4000:
                return text
            text += body

    def chain(self, head, unit, sign, end=""):
        text = head + unit
        return text + (sign + unit) * ((4000 - len(text) - len(end)) // len(sign + unit)) + end

    def test_how_many_rows(self):
        for text in [self.fill("recipe\n", "repeat 1\nend\n"), self.fill("recipe\n", "for x in[]\nend\n"),
                     self.fill("recipe\n", "repeat 1\nagain\nend\n"), self.fill("recipe\n", "if 0=0\nelse\nend\n"),
                     self.fill("recipe\n", "stop\n"), self.fill("recipe a\n", "set a=a\n"),
                     self.fill("recipe\n", 'write""=""\n'), self.fill("recipe\n", "for x in[]\nrepeat 0\nend\nend\n"),
                     self.chain("recipe\nlet a=", "0", "+"), self.chain("recipe\nlet a=", "[]", "&"),
                     self.chain("recipe\nlet a=", "-" * 30 + "0", "-"), self.chain("recipe\nif", "[]=[]", "or", "\nend"),
                     self.chain("recipe\nif", "[]=[]", "and", "\nend"),
                     self.chain("recipe\ndefine f()gives list\nend\nlet a=", "f()", "&")]:
            self.assertLessEqual(len(text), 4000)
            rows = compiled(Program.read(text))
            self.check_rows(rows)
            self.assertLessEqual(len(rows), 8000)
            Machine(rows, [""])


class LoopTest(MachineTest):
    """Rows that are done again and again, with what they leave on the stack."""

    def loop(self, body, rounds):
        """Rows that do these rows so many times, counted in variable 9; then the next row comes."""
        rows = [*push(0), ("store", 9)]
        start = len(rows)
        rows += [("turn",), *body, ("load", 9), *push(1), ("op", "+"), ("store", 9), ("load", 9), *push(rounds), ("test", "<")]
        return rows + [("unless", len(rows) + 2), ("jump", start)], start

    def number(self, chance, depth):
        kind = chance.choice(["leaf", "two", "two", "size", "neg"] if depth else ["leaf"])
        if kind == "leaf":
            return [chance.choice([*push(0, 1, 7, -3, 10 ** 12), ("load", 2), ("load", 3)])]
        if kind == "two":
            return self.number(chance, depth - 1) + self.number(chance, depth - 1) + [("op", chance.choice("+-*/"))]
        return (self.text(chance, 1) + [("op", "size")]) if kind == "size" else self.number(chance, 1) + [("op", "neg")]

    def text(self, chance, depth):
        kind = chance.choice(["leaf", "two", "part", "digits", "item"] if depth else ["leaf"])
        if kind == "leaf":
            return [chance.choice([*push("", "a", "q" * 150), ("load", 0), ("load", 1)])]
        if kind == "two":
            return self.text(chance, depth - 1) + self.text(chance, depth - 1) + [("op", "&")]
        if kind == "part":
            return self.text(chance, depth - 1) + [*push(1, chance.randint(0, 300)), ("op", "part")]
        if kind == "digits":
            return self.number(chance, depth - 1) + [("op", "digits")]
        return self.text(chance, 1) + self.text(chance, 1) + [("list", 2), *push(chance.randint(-1, 2)), ("op", "item")]

    def body(self, chance):
        rows = []
        for kind in chance.choices("tnusc", k=chance.randint(1, 6)):
            if kind == "t":
                rows += self.text(chance, 3) + [("store", chance.choice([0, 1]))]
            elif kind == "n":
                rows += self.number(chance, 3) + [("store", chance.choice([2, 3]))]
            elif kind == "u":
                rows.append(("turn",))
            elif kind == "s":
                rows += self.number(chance, 2) + self.text(chance, 2) + [("store", 0), ("store", 2)]
            else:
                rows += self.number(chance, 2) + self.number(chance, 1) + [("call", None, 1), ("op", "+"), ("store", 3)]
        return rows

    def test_loops_by_the_rules_of_the_table(self):
        taken = 0
        for seed in range(600):
            chance = random.Random(seed)
            rows = [*push(4), ("store", 2), *push(9), ("store", 3)]
            many = len(rows)
            loop, start = self.loop(self.body(chance), chance.randint(1, 8))
            rows += [(row[0], row[1] + many) if row[0] in ("jump", "unless") else row for row in loop]
            rows += [*push("o"), ("load", 0), WRITE, *push("t", "o"), ("read", 1), *push("none"), ("op", "else"), ("store", 1)]
            rows += [*push(0), ("store", 9), *push("p"), ("load", 2), ("op", "digits"), WRITE, ("jump", start + many)]
            function = len(rows)
            rows += [("turn",), ("load", 0), *push(2), ("op", "+"), ("return",)]
            rows = [("call", function, 1) if row[0] == "call" else row for row in rows]
            machine, plain = Machine(rows, ["x", "y"]), PlainMachine(rows, ["x", "y"])
            while plain.step != STOP:
                self.assertEqual(machine.step, plain.step)
                machine = machine.copied() if chance.random() < 0.3 else machine
                answers = (chance.choice(["ans", None]),) if plain.step[0] == "read" else ()
                machine(answers)
                plain.go_on(answers)
                taken += 1
            self.assertEqual(machine.step, STOP)
        self.assertGreater(taken, 1000)

    def test_values_beyond_the_bounds_in_loops(self):
        for value in ["x" * 401, 10 ** 12 + 1, -10 ** 12 - 1]:
            for rounds in range(1, 6):
                kept, _ = self.loop([*push(value), ("store", 5)], rounds)
                used, _ = self.loop([*push(value), ("store", 5), ("load", 5), ("store", 6)], rounds)
                self.goes_on(kept)
                self.stops(used)

    def test_arguments_and_answers_beyond_the_bounds_in_loops(self):
        for rounds in range(1, 6):
            used, _ = self.loop([("load", 0), ("store", 1)], rounds)
            self.stops(used, ["x" * 401])
            self.goes_on(used, ["x" * 400])
            rows = [*push("t", "o"), ("read", 1), ("store", 0)]
            rows += [(row[0], row[1] + 4) if row[0] in ("jump", "unless") else row for row in used] + [*push("o", "t"), WRITE]
            for answer, step in [("x" * 401, STOP), ("x" * 400, ("write", "o", "t")), (None, ("write", "o", "t"))]:
                machine = self.machine(rows)
                machine((answer,))
                self.assertEqual(machine.step, step)


class RecipeTest(MachineTest):

    TEXT = ('recipe a b\nwrite "o" = a & b\nread x from "src" . "a"\nrepeat 2 as k\n  if known x\n    write "p" & digits(k) = x '
            'else ""\n  end\n  read y from "src" . "b"\n  set x = y\nend')

    def setUp(self):
        self.recipe = ProgramRecipe(Program.read(self.TEXT))

    def test_any_place_in_any_order(self):
        steps = {((), 0): ("write", "o", "12"), ((), 1): ("read", (A,)), ((("x",),), 0): ("write", "p0", "x"),
                 ((("x",),), 1): ("read", (B,)), (((None,),), 0): ("read", (B,)), (((None,), ("y",)), 0): ("write", "p1", "y"),
                 (((None,), ("y",)), 1): ("read", (B,)), (((None,), ("y",), (None,)), 0): STOP,
                 ((("x",), (None,)), 0): ("read", (B,)), ((("x",), (None,), ("",)), 0): STOP}
        for order in [list(steps), list(steps)[::-1], random.Random(1).sample(list(steps), len(steps))]:
            for answers, count in order:
                self.assertEqual(self.recipe.step_at(("1", "2"), answers, count), steps[answers, count])
        self.assertEqual(self.recipe.step_at(arguments=("1",), answers=(), count=0), ("write", "o", "1"))
        self.assertEqual(self.recipe.step_at((), (), 0), ("write", "o", ""))
        self.assertEqual(self.recipe.step_at(("1", "2", "3"), (), 0), ("write", "o", "12"))

    def test_runs_and_workshops(self):
        workshop = Workshop({"r": self.recipe})
        run = workshop.begin("r", ("1", "2"))
        other = run.copied()
        run()
        run((None,))
        self.assertEqual((run.place, run.step), (("r", ("1", "2"), ((None,),), 0), ("read", (B,))))
        self.assertEqual((other.place, other.step), (("r", ("1", "2"), (), 0), ("write", "o", "12")))
        copy = run.copied()
        run(("y",))
        copy(("z",))
        self.assertEqual((run.step, copy.step), (("write", "p1", "y"), ("write", "p1", "z")))
        self.assertEqual(run.trail[:2], copy.trail[:2])
        self.assertEqual(workshop.step_at(("r", (), (("x",),), 1)), ("read", (B,)))
        run()
        run((None,))
        self.assertEqual(run.step, STOP)
        before = run.trail
        self.assertRaises(Halted, run)
        self.assertEqual(run.trail, before)

    def test_an_engine(self):
        """The same answers, steps and replays as with the tree that does the same."""
        program = Program.read('recipe a\nread x from "src" . "a"\nwrite "v" = a\nif known x\n  write "x" = x else ""\nend')
        tree = TreeRecipe(read((A,), (((None,), write("v", ((0, 0),))),), write("v", ((0, 0),), write("x", ((1, 0),)))))
        one, other = Engine(Workshop({"r": ProgramRecipe(program)})), Engine(Workshop({"r": tree}))
        project = Project({"src": Source({"a": "1"}), "m": Made("r", ("v",)), "n": Made("r")})
        for changed in [project, project.write("src", "a", "2"), project.erase("src", "a"), project]:
            for key in [("m", "v"), ("n", "x"), ("m", "x"), ("m", "z")]:
                self.assertEqual(one.ask(changed, key), other.ask(changed, key))
                self.assertEqual((one.news, one.replays, len(one)), (other.news, other.replays, len(other)))
            self.assertEqual(one.record, other.record)
        self.assertGreater(one.replays, 0)

    def test_equal(self):
        self.assertIs(self.recipe == ProgramRecipe(Program.read("\n" + self.TEXT)), True)
        self.assertIs(self.recipe == ProgramRecipe(Program.read("recipe a b")), False)
        self.assertIs(ProgramRecipe(Program.read("recipe")) == ProgramRecipe(Program.read("recipe")), True)
        for value in [Recipe(), TreeRecipe(STOP), TreeRecipe(read((A,))), Program.read("recipe"), "recipe", None]:
            self.assertIs(ProgramRecipe(Program.read("recipe")) == value, False)
            self.assertIs(value == ProgramRecipe(Program.read("recipe")), False)

    def test_interface(self):
        program = Program.read(self.TEXT)
        self.assertEqual(ProgramRecipe(program=program).program, program)
        self.assertIsInstance(self.recipe, Recipe)
        for name in ["step_at", "program", "__eq__"]:
            self.assertIn(name, vars(ProgramRecipe))
        self.assertTrue(issubclass(Halted, BuildError))


if __name__ == "__main__":
    unittest.main()
