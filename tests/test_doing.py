"""What programs do: operators, functions, loops and faults, as stage 7 tells them."""

import random
import unittest

from farenough.machines import ProgramRecipe
from farenough.programs import Program
from farenough.runs import Run
from samples import STOP
from scripts import TEXTS, Doing, Script


def run_of(*lines, arguments=()):
    return Run("r", ProgramRecipe(Program.read("\n".join(lines))), arguments)


class DoingTest(unittest.TestCase):

    def steps(self, *lines, arguments=(), answers=()):
        """The steps of a program, with these answers to its reads."""
        run, left, steps = run_of(*lines, arguments=arguments), list(answers), []
        while run.step != STOP:
            steps.append(run.step)
            run(left.pop(0) if run.step[0] == "read" else ())
        self.assertEqual(left, [])
        return steps

    def writes(self, texts, *lines, arguments=(), answers=()):
        """What a program writes, to o0, o1 and so on."""
        steps = self.steps(*lines, arguments=arguments, answers=answers)
        self.assertEqual([step for step in steps if step[0] == "write"],
                         [("write", f"o{at}", text) for at, text in enumerate(texts)])

    def text(self, expression, text, *before, arguments=(), answers=()):
        """The value of an expression of kind text."""
        rows = ["recipe t u", *before, f'write "o0" = {expression}']
        self.writes([text], *rows, arguments=arguments, answers=answers)

    def number(self, expression, number, *before):
        self.text(f"digits({expression})", str(number), *before)

    def texts(self, expression, texts, *before):
        """The value of an expression of kind list."""
        self.text(f'join({expression}, "|") & "|" & digits(size({expression}))', "|".join([*texts, str(len(texts))])
                  if texts else "|0", *before)

    def truth(self, condition, truth, *before, arguments=(), answers=()):
        rows = ["recipe t u", *before, f"if {condition}", 'write "o0" = "yes"', "else", 'write "o0" = "no"', "end"]
        self.writes(["yes" if truth else "no"], *rows, arguments=arguments, answers=answers)

    def stops(self, *lines, arguments=()):
        """A program that stops at the last of these lines, and goes on without it."""
        ends = ["end"] * len([row for row in lines if row.startswith(("if ", "repeat ", "for "))])
        rows = ["recipe t u", 'write "first" = "1"', *lines]
        self.assertEqual(self.steps(*rows, *ends, 'write "last" = "2"', arguments=arguments), [("write", "first", "1")])

    def goes_on(self, *lines, arguments=()):
        ends = ["end"] * len([row for row in lines if row.startswith(("if ", "repeat ", "for "))])
        rows = ["recipe t u", 'write "first" = "1"', *lines]
        steps = self.steps(*rows, *ends, 'write "last" = "2"', arguments=arguments)
        self.assertEqual(steps[-1], ("write", "last", "2"))


class ExpressionTest(DoingTest):

    def test_numbers(self):
        for text, number in [("0", 0), ("7 + 8", 15), ("7 - 8", -1), ("7 * 8", 56), ("2 + 3 * 4", 14), ("(2 + 3) * 4", 20),
                             ("10 - 4 - 3", 3), ("10 - (4 - 3)", 9), ("2 * 3 mod 4", 2), ("-3", -3), ("--3", 3), ("-3 * -2", 6),
                             ("-(2 + 3)", -5), ("0 - 0", 0), ("100 / 10 / 5", 2), ("100 / (10 / 5)", 50), ("1 - -1", 2)]:
            self.number(text, number)

    def test_floor_division_and_remainder(self):
        for one in [7, -7, 6, -6, 0, 1, -1]:
            for two in [3, -3, 2, -2, 1, -1, 7]:
                left, right = (f"{one}" if one >= 0 else f"-{-one}"), (f"{two}" if two >= 0 else f"-{-two}")
                self.number(f"{left} / {right}", one // two)
                self.number(f"{left} mod {right}", one % two)

    def test_texts_and_lists(self):
        self.text('"a" & "" & "b c"', "ab c")
        self.text("t & u", "xy", arguments=("x", "y"))
        self.texts('["a"] & [] & ["b", "a"]', ["a", "b", "a"])
        self.texts("[]", [])
        self.texts('["", ""]', ["", ""])

    def test_size(self):
        for text, size in [('""', 0), ('"abc"', 3), ("[]", 0), ('["", "ab"]', 2)]:
            self.number(f"size({text})", size)

    def test_part(self):
        for begin, end, text in [(0, 5, "hello"), (1, 3, "el"), (0, 0, ""), (3, 3, ""), (4, 1, ""), (-2, 2, "he"), (3, 99, "lo"),
                                 (-9, 99, "hello"), (5, 9, ""), (9, 12, ""), (-5, -1, ""), (2, -1, ""), (4, 5, "o"),
                                 (-1, 1, "h"), (-10 ** 12, 10 ** 12, "hello")]:
            one, two = (f"0 - {-value}" if value < 0 else str(value) for value in (begin, end))
            if max(abs(begin), abs(end)) == 10 ** 12:
                one, two = "0 - 999999999999 - 1", "999999999999 + 1"
            self.text(f'part("hello", {one}, {two})', text)

    def test_find(self):
        for text, other, at in [("hello", "l", 2), ("hello", "", 0), ("", "", 0), ("", "a", -1), ("hello", "hello", 0),
                                ("hello", "hellos", -1), ("aXaX", "aX", 0), ("abc", "c", 2), ("aab", "ab", 1)]:
            self.number(f'find("{text}", "{other}")', at)

    def test_split(self):
        for text, other, pieces in [("a,b,c", ",", ["a", "b", "c"]), ("a,b", ";", ["a,b"]), ("", ",", [""]), (",", ",", ["", ""]),
                                    ("abc", "", ["a", "b", "c"]), ("", "", []), ("aaaa", "aa", ["", "", ""]),
                                    ("aaa", "aa", ["", "a"]), ("a b  c", " ", ["a", "b", "", "c"])]:
            self.texts(f'split("{text}", "{other}")', pieces)

    def test_join_and_item(self):
        self.text('join(["a", "b", "c"], ", ")', "a, b, c")
        self.text('join([], ", ")', "")
        self.text('join(["a"], ", ")', "a")
        for at, text in [("0", "a"), ("1", "b"), ("2", ""), ("-1", ""), ("-2", ""), ("999999999999", "")]:
            self.text(f'item(["a", "b"], {at})', text)
        self.text("item([], 0)", "")

    def test_sorted_and_turned(self):
        self.texts('sorted(["b", "", "a", "B", "ab", "a"])', ["", "B", "a", "a", "ab", "b"])
        self.texts('turned(["b", "", "a"])', ["a", "", "b"])
        self.texts("sorted([])", [])
        self.texts("turned([])", [])
        self.text('join(l, "") & join(sorted(l), "") & join(l, "")', "baabba", 'let l = ["b", "a"]')

    def test_times(self):
        for text, many, result in [("ab", "3", "ababab"), ("ab", "1", "ab"), ("ab", "0", ""), ("ab", "-1", ""),
                                   ("", "999999999999", ""), ("ab", "-999999999999", "")]:
            self.text(f'times("{text}", {many})', result)

    def test_value_and_digits(self):
        for text, number in [("0", 0), ("7", 7), ("-7", -7), ("-0", 0), ("123456789012", 123456789012), ("1234567890123", 0),
                             ("-123456789012", -123456789012), ("-1234567890123", 0), ("007", 0), ("-07", 0), ("00", 0),
                             ("", 0), ("-", 0), ("--7", 0), ("+7", 0), (" 7", 0), ("7 ", 0), ("- 7", 0), ("7a", 0), ("a", 0),
                             ("1 2", 0), ("1.0", 0), ("1_0", 0)]:
            self.number(f'value("{text}")', number)
        for number, text in [("0", "0"), ("-0", "0"), ("12", "12"), ("-12", "-12"), ("999999999999 + 1", "1000000000000")]:
            self.text(f"digits({number})", text)

    def test_else(self):
        reads = 'read x from "a" . "b", y from "a" . "c"'
        for one, two, text in [("1", "2", "1"), (None, "2", "2"), (None, None, "no"), ("", "2", "")]:
            self.text('x else y else "no"', text, reads, answers=[(one, two)])
            self.text('x else (y else "no")', text, reads, answers=[(one, two)])

    def test_both_sides_of_else_are_done(self):
        self.assertEqual(self.steps("recipe", 'read x from "a" . "b"', 'write "o" = x else digits(1 / 0)', answers=[("1",)]),
                         [("read", (("a", "b"),))])

    def test_tests(self):
        for one, two in [("1", "1"), ("1", "2"), ("2", "1"), ("-1", "1"), ("10", "9")]:
            for sign, holds in [("=", int(one) == int(two)), ("!=", int(one) != int(two)), ("<", int(one) < int(two)),
                                ("<=", int(one) <= int(two)), (">", int(one) > int(two)), (">=", int(one) >= int(two))]:
                self.truth(f"{one} {sign} {two}", holds)
        for one, two in [("a", "a"), ("a", "b"), ("b", "a"), ("", "a"), ("a", "A"), ("10", "9"), ("a", "aa")]:
            for sign, holds in [("=", one == two), ("!=", one != two), ("<", one < two), ("<=", one <= two), (">", one > two),
                                (">=", one >= two)]:
                self.truth(f'"{one}" {sign} "{two}"', holds)
        for one, two, same in [('["a"]', '["a"]', True), ('["a"]', "[]", False), ("[]", "[]", True),
                               ('["a", "b"]', '["b", "a"]', False)]:
            self.truth(f"{one} = {two}", same)
            self.truth(f"{one} != {two}", not same)

    def test_in(self):
        for one, two, holds in [('"a"', '"bab"', True), ('"c"', '"bab"', False), ('""', '""', True), ('""', '"a"', True),
                                ('"a"', '["b", "a"]', True), ('"a"', '["ba"]', False), ('""', "[]", False), ('""', '[""]', True)]:
            self.truth(f"{one} in {two}", holds)
            self.truth(f"not {one} in {two}", not holds)

    def test_known(self):
        for answer, holds in [("", True), ("a", True), (None, False)]:
            self.truth("known x", holds, 'read x from "a" . "b"', answers=[(answer,)])
            self.truth("not known x", not holds, 'read x from "a" . "b"', answers=[(answer,)])

    def test_and_and_or(self):
        yes, no = "1 = 1", "1 = 2"
        for parts in [(a, b, c) for a in (yes, no) for b in (yes, no) for c in (yes, no)]:
            a, b, c = (part == yes for part in parts)
            self.truth(f"{parts[0]} and {parts[1]} or {parts[2]}", a and b or c)
            self.truth(f"{parts[0]} or {parts[1]} and {parts[2]}", a or b and c)
            self.truth(f"{parts[0]} and {parts[1]} and {parts[2]}", a and b and c)
            self.truth(f"{parts[0]} or {parts[1]} or {parts[2]}", a or b or c)
            self.truth(f"not {parts[0]} and not not {parts[1]} or not {parts[2]}", not a and b or not c)
            self.truth(f"{parts[0]} or {parts[0]} or {parts[1]} and {parts[1]}", a or b)

    def test_the_right_side_that_is_not_done(self):
        for left, sign, done in [("1 = 1", "or", False), ("1 = 2", "or", True), ("1 = 2", "and", False), ("1 = 1", "and", True),
                                 ("1 = 1 or 1 = 2", "and", False), ("1 = 2 and 1 = 1", "or", True),
                                 ("1 = 1 or 1 / 0 = 1", "or", False)]:
            steps = self.steps("recipe", f"if {left} {sign} 1 / 0 = 1", "end", 'write "last" = "2"')
            self.assertEqual(steps, [] if done else [("write", "last", "2")])

    def test_the_same_tests_twice(self):
        rows = ["recipe", "define f (text a) gives text", "repeat 40", "end", "give a", "end"]
        for condition, many in [('f("a") = "a" or f("a") = "a"', 1), ('f("a") = "b" or f("a") = "b"', 2)]:
            condition = " and ".join(["1 = 1"] * 2) + " and " + condition
            for rounds, goes_on in [(298 - 42 * many - 1, True), (299 - 42 * many, False)]:
                steps = self.steps(*rows, f"if {condition}", "end", f"repeat {rounds}", "end", 'write "a" = "1"')
                self.assertEqual(bool(steps), goes_on, (condition, rounds))


class StatementTest(DoingTest):

    def test_arguments(self):
        self.writes(["xy"], "recipe a b", 'write "o0" = a & b', arguments=("x", "y"))
        self.writes(["x"], "recipe a b", 'write "o0" = a & b', arguments=("x",))
        self.writes([""], "recipe a b", 'write "o0" = a & b')
        self.writes(["xy"], "recipe a b", 'write "o0" = a & b', arguments=("x", "y", "z", "w"))
        self.writes([""], "recipe", 'write "o0" = ""', arguments=("x", "y", "z", "w"))

    def test_reads(self):
        steps = self.steps("recipe t", 'read x from t . "b", y from "c" & t . "d"', 'write "o" & t = x else "no" & (y else "no")',
                           arguments=("a",), answers=[(None, "2")])
        self.assertEqual(steps, [("read", (("a", "b"), ("ca", "d"))), ("write", "oa", "no2")])
        steps = self.steps("recipe", "read " + ", ".join(f'x{at} from "t{at}" . "a"' for at in range(4)),
                           'write "o" = ' + " & ".join(f'(x{at} else "-")' for at in range(4)), answers=[("1", None, "3", "4")])
        self.assertEqual(steps[-1], ("write", "o", "1-34"))

    def test_writes_and_stops(self):
        self.assertEqual(self.steps("recipe"), [])
        self.assertEqual(self.steps("recipe", "stop", 'write "a" = "1"'), [])
        self.writes(["1"], "recipe", 'write "o0" = "1"', "if 1 = 1", "stop", "end", 'write "o1" = "2"')

    def test_set(self):
        self.writes(["3"], "recipe", "let a = 1", "if 1 = 1", "set a = a + 2", "end", 'write "o0" = digits(a)')
        self.writes(["b"], "recipe t", 'set t = "b"', 'write "o0" = t', arguments=("a",))
        self.writes(["2"], "recipe", 'read x from "a" . "b", y from "a" . "c"', "set x = y", 'write "o0" = x else "no"',
                    answers=[(None, "2")])

    def test_if(self):
        for one, two, text in [("1", "1", "a"), ("1", "2", "b")]:
            self.writes([text], "recipe", 'let t = "-"', f"if {one} = {two}", 'set t = "a"', "else", 'set t = "b"', "end",
                        'write "o0" = t')
            self.writes(["a" if text == "a" else "-"], "recipe", 'let t = "-"', f"if {one} = {two}", 'set t = "a"', "end",
                        'write "o0" = t')

    def test_repeat(self):
        for many, texts in [("0", ""), ("1", "0"), ("3", "012"), ("-5", "")]:
            rows = ["recipe", 'let t = ""', f"repeat {many} as k", "set t = t & digits(k)", "end", 'write "o0" = t']
            self.writes([texts], *rows)
            self.writes(["x" * len(texts)], "recipe", 'let t = ""', f"repeat {many}", 'set t = t & "x"', "end", 'write "o0" = t')

    def test_the_expression_of_a_loop_is_done_once(self):
        self.writes(["xx"], "recipe", "let n = 2", 'let t = ""', "repeat n", "set n = n + 1", 'set t = t & "x"', "end",
                    'write "o0" = t')
        self.writes(["ab"], "recipe", 'let l = ["a", "b"]', 'let t = ""', "for x in l", "set l = l & l", "set t = t & x", "end",
                    'write "o0" = t')

    def test_for(self):
        for value, text in [("[]", ""), ('["a"]', "a;"), ('["a", "", "b"]', "a;;b;"), ('split("c,d", ",")', "c;d;")]:
            self.writes([text], "recipe", 'let t = ""', f"for x in {value}", 'set t = t & x & ";"', "end", 'write "o0" = t')

    def test_leave_and_again(self):
        rows = ["recipe", 'let t = ""', "repeat 3 as i", "repeat 5 as k", "if k = 1", "again", "end", "if k = 3", "leave", "end",
                "set t = t & digits(i) & digits(k) & \" \"", "end", "if i = 1", "leave", "end", "set t = t & \"|\"", "end",
                'write "o0" = t']
        self.writes(["00 02 |10 12 "], *rows)
        rows = ["recipe", 'let t = ""', 'for x in ["a", "b", "c", "d"]', 'for y in ["1", "2"]', 'if x = "b"', "leave", "end",
                'if y = "1"', "again", "end", "set t = t & x & y", "end", 'if x = "c"', "leave", "else", "again", "end",
                'set t = t & "never"', "end", 'write "o0" = t']
        self.writes(["a2c2"], *rows)

    def test_a_variable_in_a_loop_is_new_each_time(self):
        self.writes(["0102"], "recipe", 'let t = ""', "repeat 2 as k", 'let a = digits(k)', "set t = t & a", 'set a = a & "x"',
                    "if k = 0", 'let b = "1"', "set t = t & b", "else", 'let b = "2"', "set t = t & b", "end", "end",
                    'write "o0" = part(t, 0, 2) & "0" & part(t, 3, 4)')

    def test_loops_with_steps(self):
        steps = self.steps("recipe", "repeat 2 as k", 'read x from "a" . "b" & digits(k)', "if known x",
                           'write "o" & digits(k) = x else ""', "end", "end", answers=[(None,), ("1",)])
        self.assertEqual(steps, [("read", (("a", "b0"),)), ("read", (("a", "b1"),)), ("write", "o1", "1")])


class FunctionTest(DoingTest):

    def test_give(self):
        rows = ["recipe", "define f (number n) gives text", "repeat n as k", "if k = 2", 'give "two"', "end", "end", 'give "end"',
                "end"]
        self.writes(["two", "end", "end"], *rows, *[f'write "o{at}" = f({n})' for at, n in enumerate([5, 2, 0])])

    def test_without_give(self):
        for kind, value, expression, text in [("text", '"a"', "f()", ""), ("number", "1", "digits(f())", "0"),
                                              ("list", '["a"]', "digits(size(f()))", "0")]:
            self.writes([text], "recipe", f"define f () gives {kind}", "end", f'write "o0" = {expression}')
            self.writes([text], "recipe", f"define f () gives {kind}", "if 1 = 2", f"give {value}", "end", "end",
                        f'write "o0" = {expression}')

    def test_functions_call_functions(self):
        rows = ["recipe t", "define f (text a, number n) gives text", "set a = times(a, n)", "give a", "end",
                "define g (text t) gives text", "let n = 2", 'give f(t & "-", n) & f(t, n + 1)', "end",
                "define h (list l) gives list", "let r = []", "for x in l", "set r = r & [g(x)]", "end", "give r", "end"]
        self.writes(["a-a-aaa|b-b-bbb", "x"], *rows, 'write "o0" = join(h(["a", "b"]), "|")', 'write "o1" = t', arguments=("x",))

    def test_values_below_a_call(self):
        rows = ["recipe", "define f (number a, number b) gives number", "give a - b", "end"]
        self.writes(["5"], *rows, 'write "o0" = digits(10 - f(7, f(3, 1)) * 1)')
        self.writes(["a-1b"], *rows, 'write "o0" = "a" & digits(f(1, 2)) & "b"')
        self.writes(["x-1y"], *rows, 'write "o0" = join(["x", digits(f(1, 2)), "y"], "")')

    def test_functions_do_not_change_what_they_are_given(self):
        rows = ["recipe", "define f (text a, list l) gives text", 'set a = a & "!"', 'set l = l & ["!"]', "give a", "end"]
        self.writes(["x!x1"], *rows, 'let t = "x"', 'let l = ["y"]', 'write "o0" = f(t, l) & t & digits(size(l))')

    def test_a_function_in_a_condition_and_a_read(self):
        rows = ["recipe", "define f (number n) gives text", 'give "a" & digits(n)', "end"]
        steps = self.steps(*rows, 'if f(1) = "a1"', "read x from f(2) . f(3)", "write f(4) = f(5)", "end", answers=[("",)])
        self.assertEqual(steps, [("read", (("a2", "a3"),)), ("write", "a4", "a5")])


class FaultTest(DoingTest):

    def test_division(self):
        for text in ["1 / 0", "0 / 0", "1 mod 0", "1 / (1 - 1)"]:
            self.stops(f"let a = {text}")

    def test_great_numbers(self):
        most = "999999999999"
        for text, good in [(f"{most} + 1", True), (f"{most} + 2", False), (f"-{most} - 1", True), (f"-{most} - 2", False),
                           ("1000000 * 1000000", True), ("1000000 * 1000001", False), ("-1000000 * 1000000", True),
                           ("-1000000 * 1000001", False), (f"({most} + 1) * 1", True), (f"{most} + 2 - 2", False),
                           (f"({most} + 2) * 0", False), (f"{most} * {most}", False), (f"-({most} + 1)", True)]:
            if good:
                self.goes_on(f"let a = {text}")
            else:
                self.stops(f"let a = {text}")

    def test_long_texts(self):
        text = "a" * 400
        for value, good in [(f'"{text}"', True), (f'"{text}" & ""', True), (f'"{text}" & "a"', False), ('times("a", 400)', True),
                            ('times("a", 401)', False), ('times("ab", 200)', True), ('times("ab", 201)', False),
                            ('times("a", 999999999999)', False), (f'join(["{text}"], "b")', True),
                            (f'join(["{text}", ""], "b")', False), (f'join(["{text}", ""], "")', True),
                            (f'part("{text}" & "a", 0, 1)', False)]:
            if good:
                self.goes_on(f"let a = {value}")
            else:
                self.stops(f"let a = {value}")

    def test_long_arguments(self):
        for many, good in [(400, True), (401, False)]:
            for line in ["let a = t", "let a = size(t)", "if t = u", "let a = [t]"]:
                if good:
                    self.goes_on(line, arguments=("a" * many,))
                else:
                    self.stops(line, arguments=("a" * many,))
            self.goes_on("let a = u", arguments=("a" * many,))

    def test_long_lists(self):
        sixty, one = "[" + ", ".join(['""'] * 60) + "]", '[""]'
        for value, good in [(sixty, True), (f"{sixty} & []", True), (f"{sixty} & {one}", False), (f"sorted({sixty})", True),
                            ("[" + ", ".join(['""'] * 61) + "]", False), ('split(times("a", 60), "")', True),
                            ('split(times("a", 61), "")', False), ('split(times(",", 59), ",")', True),
                            ('split(times(",", 60), ",")', False), ('[item(split(times(",", 60), ","), 0)]', False)]:
            if good:
                self.goes_on(f"let a = {value}")
            else:
                self.stops(f"let a = {value}")

    def test_faults_in_functions(self):
        self.assertEqual(self.steps("recipe", "define f () gives number", "give 1 / 0", "end", 'write "a" = digits(f())'), [])
        for size, good in [(200, True), (201, False)]:
            steps = self.steps("recipe", "define f (text a) gives text", "give a & a", "end",
                               f'write "a" = part(f(times("b", {size})), 0, 1)')
            self.assertEqual(bool(steps), good)

    def test_reads_of_what_is_no_name(self):
        for text in ["", "A", "1a", "a b", "abcdefghi", "a.b", "-"]:
            self.stops(f'read x from "{text}" . "a"')
            self.stops(f'read x from "a" . "{text}"')
            self.stops(f'read x from "a" . "b", y from "a" . "{text}"')
        self.stops('read x from "a" . "b", y from "a" . "b"')
        self.stops('read x from "a" . "b", y from "b" . "a", z from "a" . "b"')
        self.assertEqual(len(self.steps("recipe", 'read x from "a" . "b", y from "b" . "a"', answers=[("", "")])), 1)
        self.assertEqual(len(self.steps("recipe", 'read x from "a" . "b"', 'read y from "a" . "b"', answers=[("",), ("",)])), 2)

    def test_writes_of_what_is_no_name(self):
        for text in ["", "A", "1a", "a b", "abcdefghi", "a.b", "-"]:
            self.stops(f'write "{text}" = "a"')
        self.goes_on('write "abcdefgh" = "a"')

    def test_an_output_written_twice(self):
        self.stops('write "first" = "a"')
        self.stops('write "fi" & "rst" = "1"')
        steps = self.steps("recipe", 'write "a" = "1"', 'read x from "a" . "b"', 'write "b" = "1"', 'write "a" = "2"',
                           'write "c" = "3"', answers=[("",)])
        self.assertEqual(len(steps), 3)

    def test_a_fault_ahead_of_a_step(self):
        self.stops('write "a" = digits(1 / 0)')
        self.stops("write digits(1 / 0) = \"a\"")
        self.stops('read x from "a" . digits(1 / 0)')
        self.stops("repeat 1 / 0")
        self.stops("if 1 / 0 = 1")
        self.stops('for x in split(times("a", 61), "")')

    def test_turns(self):
        """A loop is one turn, and each of its rounds; here with the write behind it."""
        for rounds, good in [(298, True), (299, False), (999999999999, False)]:
            steps = self.steps("recipe", f"repeat {rounds}", "end", 'write "a" = "1"')
            self.assertEqual(bool(steps), good)
        for many, good in [(299, True), (300, False)]:
            steps = self.steps("recipe", "let a = 1", *["set a = 2"] * (many - 1), 'write "a" = "1"')
            self.assertEqual(bool(steps), good)

    def test_three_hundred_turns_and_one_more(self):
        self.assertEqual(len(self.steps("recipe", *["if 1 = 1", "end"] * 299, 'write "a" = ""')), 1)
        self.assertEqual(len(self.steps("recipe", *["if 1 = 1", "end"] * 300, 'write "a" = ""')), 0)
        self.assertEqual(len(self.steps("recipe", *["if 1 = 1", "else", "end"] * 299, 'write "a" = ""')), 1)

    def test_turns_begin_anew_behind_each_step(self):
        rows = ["repeat 298", "end"]
        steps = self.steps("recipe", *rows, 'write "a" = "1"', *rows, 'read x from "a" . "b"', *rows, 'write "b" = "1"',
                           "repeat 299", "end", 'write "c" = "1"', answers=[("",)])
        self.assertEqual([step[0] for step in steps], ["write", "read", "write"])

    def test_turns_in_functions(self):
        rows = ["recipe", "define f (number n) gives text", "repeat n", "end", "end"]
        for one, other, good in [(297, 0, True), (298, 0, True), (299, 0, False), (148, 148, True), (149, 148, True),
                                 (149, 149, False)]:
            if other:
                steps = self.steps(*rows, f'write "a" = f({one}) & f({other})')
            else:
                steps = self.steps(*rows, f'write "a" = f({one})')
            self.assertEqual(bool(steps), good, (one, other))

    def test_turns_in_nested_loops(self):
        """1 for the outer loop, and for each of its rounds 1, and 1 for the inner loop and 1 for each of its rounds."""
        for inner, good in [(27, True), (28, False)]:
            steps = self.steps("recipe", "repeat 10", f"repeat {inner}", "end", "end", 'write "a" = "1"')
            self.assertEqual(bool(steps), good)
        for more, good in [(8, True), (9, False)]:
            steps = self.steps("recipe", "repeat 10", "repeat 27", "end", "end", *["if 1 = 1", "end"] * more, 'write "a" = "1"')
            self.assertEqual(bool(steps), good, more)

    def test_turns_of_for_leave_and_again(self):
        texts = "[" + ", ".join(['""'] * 50) + "]"
        for more, good in [(48, True), (49, False)]:
            steps = self.steps("recipe", f"for x in {texts}", 'for y in ["", ""]', "leave", "end", "again", "end",
                               *["if 1 = 1", "end"] * more, 'write "a" = "1"')
            self.assertEqual(bool(steps), good, more)

    def test_a_loop_without_steps(self):
        self.assertEqual(self.steps("recipe", "repeat 999999999999", "again", "end", 'write "a" = ""'), [])


class ChanceTest(DoingTest):

    def test_programs_by_chance(self):
        """Many programs, step by step, beside a plain reading of stage 7."""
        taken = 0
        for seed in range(1000, 1600):
            script, chance = Script(seed), random.Random(seed)
            arguments = tuple(chance.choice(TEXTS) for _ in range(chance.randint(0, 4)))
            recipe = ProgramRecipe(Program.read(script.text()))
            run, steps = Run("r", recipe, arguments), Doing(script, "r", arguments).steps()
            step, _ = next(steps)
            for _ in range(60):
                self.assertEqual(run.step, step)
                self.assertEqual(recipe.step_at(*run.place[1:]), step)
                if step == STOP:
                    break
                answers = tuple(chance.choice(TEXTS + [None]) for _ in step[1]) if step[0] == "read" else ()
                run(answers)
                step, _ = steps.send(answers or None)
                taken += 1
        self.assertGreater(taken, 500)


if __name__ == "__main__":
    unittest.main()
