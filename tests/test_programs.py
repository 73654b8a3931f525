"""Programs: tokens, lines, names, kinds and texts, as stage 7 tells them."""

import itertools
import unittest

from farenough.errors import BadKind, BadLine, BadName
from farenough.programs import Program
from scripts import Script

WORDS = """recipe define gives give let set read from write stop if else end repeat as for in leave again mod and or not
known text number list size part find split join item sorted turned times value digits""".split()


class ProgramTest(unittest.TestCase):

    def reads(self, text, plain=None):
        """A program is read, and its text read again is equal to it."""
        program = Program.read(text)
        self.assertIs(type(program), Program)
        if plain is not None:
            self.assertEqual(program.text, plain)
        self.assertEqual(Program.read(program.text).text, program.text)
        self.assertIs(Program.read(program.text) == program, True)
        return program

    def good(self, *lines):
        return self.reads("\n".join(lines))

    def bad_line(self, number, *lines):
        with self.assertRaises(BadLine) as caught:
            Program.read("\n".join(lines))
        self.assertEqual(caught.exception.line, number, lines)
        self.assertIs(type(caught.exception), BadLine)

    def bad_name(self, number, name, *lines):
        with self.assertRaises(BadName) as caught:
            Program.read("\n".join(lines))
        self.assertEqual((caught.exception.line, caught.exception.name), (number, name), lines)

    def bad_kind(self, number, *lines):
        with self.assertRaises(BadKind) as caught:
            Program.read("\n".join(lines))
        self.assertEqual(caught.exception.line, number, lines)

    def expression(self, text, plain, *before):
        """An expression of any kind, and its plain form."""
        rows = ["recipe t u", "let n = 1", "let l = [t]", *before]
        program = self.good(*rows, f"let z = {text}")
        self.assertEqual(program.text.split("\n")[-1], f"let z = {plain}")

    def wrong(self, text, *before):
        rows = ["recipe t u", "let n = 1", "let l = [t]", 'read x from "a" . "b", y from "a" . "c"', *before]
        self.bad_kind(len(rows), *rows, f"let z = {text}")

    def right(self, text, *before):
        rows = ["recipe t u", "let n = 1", "let l = [t]", 'read x from "a" . "b", y from "a" . "c"', *before]
        self.good(*rows, f"let z = {text}")


class TokensTest(ProgramTest):

    def test_words(self):
        for word in ["a", "z", "a1", "abcdefgh", "a1234567", "recip", "recipes", "lets", "x9y9z9", "sizes", "ends"]:
            self.good("recipe " + word, f"let b = {word}" if word != "b" else "")
        for word in ["abcdefghi", "a12345678", "A", "aB", "a_b", "1a", "12ab", "9abcdefg", "'a'", "a!", "aA1"]:
            self.bad_line(1, "recipe", f"let {word} = 1")
            self.bad_line(1, "recipe", f"let b = {word}")

    def test_keywords_are_no_names(self):
        for word in WORDS:
            self.bad_line(0, "recipe " + word)
            self.bad_line(1, "recipe", f"let {word} = 1")
            self.bad_line(1, "recipe", f"set {word} = 1")
            self.bad_line(1, "recipe", f"let b = {word}")
            self.bad_line(1, "recipe", f"define {word} () gives text", "end")
            self.bad_line(1, "recipe", f"for {word} in []", "end")

    def test_numbers(self):
        for number in ["0", "7", "10", "123456789012", "999999999999"]:
            self.expression(number, number)
        for number in ["00", "01", "0123", "1234567890123", "1_000", "1e3", "0x1"]:
            self.bad_line(1, "recipe", f"let b = {number}")

    def test_quoted_texts(self):
        for text in ["", " ", "a", "  a  ", "'", "\\", "#~!@$^&*()", "a" * 400, *WORDS]:
            self.expression(f'"{text}"', f'"{text}"')
        self.bad_line(1, "recipe", f'let b = "{"a" * 401}"')
        for text in ['"', '"abc', '"a" "', '"a""', 'a"', '""b"']:
            self.bad_line(1, "recipe", f"let b = {text}")

    def test_side_by_side(self):
        self.reads('recipe a\nlet b=a&"x"&a', 'recipe a\nlet b = a & "x" & a')
        self.reads('recipe\nif"a"="b"or"c"!="d"\nend', 'recipe\nif "a" = "b" or "c" != "d"\nend')
        self.bad_line(1, "recipe", "leta = 1")
        self.bad_line(1, "recipe", "let a = 1mod 2")
        self.bad_line(1, "recipe", "let a = 1 mod2")
        self.bad_line(1, "recipe", 'if "a" = "b"or1 = 1', "end")

    def test_two_signs_that_are_one(self):
        for sign in ["<=", ">=", "!="]:
            self.reads(f"recipe\nif 1{sign}2\nend", f"recipe\nif 1 {sign} 2\nend")
            self.bad_line(1, "recipe", f"if 1 {sign[0]} {sign[1]} 2", "end")
        for signs in ["==", "<>", "=<", "=>", "!", "<<", "<==", "!=="]:
            self.bad_line(1, "recipe", f"if 1 {signs} 2", "end")

    def test_what_is_no_token(self):
        for sign in "!#$'/:;?@^_`{|}~\\":
            if sign != "/":
                self.bad_line(1, "recipe", f"stop {sign}")
                self.bad_line(0, sign)
                self.bad_line(1, "recipe", sign)

    def test_spaces_anywhere(self):
        self.reads("  recipe   a\n   let  b =  part ( a,1 ,  2 )  ", "recipe a\nlet b = part(a, 1, 2)")
        self.reads("recipe\nlet a=[ ]\nlet b=[ \"x\" ,\"y\" ]\nlet c=- - 1", 'recipe\nlet a = []\nlet b = ["x", "y"]\nlet c = --1')

    def test_empty_lines(self):
        self.reads("\n  \nrecipe\n\n\nstop\n   \n", "recipe\nstop")
        self.bad_line(4, "", "recipe", "", " ", "stop 1")
        self.bad_name(3, "a", "", "recipe", "", "let b = a")
        self.bad_kind(3, "", "recipe", "", "let b = 1 & 2")

    def test_no_line(self):
        self.bad_line(1, "")
        self.bad_line(1, "    ")
        self.bad_line(3, "", "", "")
        self.reads("recipe", "recipe")


class FormsTest(ProgramTest):

    GOOD = ["let a = 1", "set t = t", 'read a from "a" . "b"', 'write "a" = "b"', "stop"]
    LOOP = ["leave", "again"]

    def test_the_first_line(self):
        for names in ["", "a", "a b", "a b c", "a b c d"]:
            self.assertEqual(self.reads(f"recipe {names}").arguments, tuple(names.split()))
        for names in ["a b c d e", "a a", "a b c a", "a, b", "(a)", "1", '"a"', "a = 1", "text a"]:
            self.bad_line(0, f"recipe {names}")
        for line in ["let a = 1", "stop", "define f () gives text", "end", "else", "1", "recipes"]:
            self.bad_line(1, "", line, "recipe")
        self.bad_line(1, "recipe", "recipe")
        self.bad_line(2, "recipe", "if 1 = 1", "recipe", "end")

    def test_each_statement(self):
        for line in self.GOOD:
            self.good("recipe t", line)
            self.good("recipe t", "if 1 = 1", line, "else", line, "end")
            self.good("recipe t", "repeat 3", "for x in []", line, "end", "end")

    def test_forms_that_are_none(self):
        bad = ["let", "let a", "let a =", "let = 1", "let a 1", "let a = 1 2", "let a, b = 1", "let 1 = a", "let (a) = 1",
               "set", "set t", "set t =", "set t = t t", "set 1 = 1", "read", "read a", "read a from", 'read a from "a"',
               'read a from "a" .', 'read a from "a" . "b",', 'read from "a" . "b"', 'read "a" . "b"',
               'read a from "a", "b"', 'read a from "a" . "b" . "c"', "write", 'write "a"', 'write "a" =',
               'write = "a"', 'write "a" = "b" = "c"', "stop 1", "stop t", "stop stop", "give", "leave 1", "again t",
               "if", "if t", "if 1", "if 1 = ", "if = 1", "if 1 = 1 = 1", "if not", "if known", "if t and", "if and t",
               "if 1 = 1 and", "if or 1 = 1", "if (1 = 1)", "if not (1 = 1)", "if 1 = 1 not", "if 1 = 1 else",
               "if t known", "if known t = t", "if 1 is 1", "repeat", "repeat as k", "repeat 1 as", "repeat 1 as 2",
               "repeat 1 as k l", "repeat 1 2", "for", "for x", "for x in", "for in []", "for x = []", "for 1 in []",
               "for x, y in []", "else 1", "end 1", "define", "define f", "define f (", "define f ()", "define f () gives",
               "define f () gives answer", "define f () gives f", "define f (a) gives text", "define f (text) gives text",
               "define f (text a,) gives text", "define f (text a text b) gives text", "define f (answer a) gives text",
               "define f (text a, , text b) gives text", "define () gives text", "define f gives text",
               "define f () give text", "define f () text", "define f [] gives text", "define f () gives text a",
               "define f (text a, text b, text c, text d, text e) gives text", "t", "1", "t = 1", "( )", "mod", "gives",
               "from", "as", "in", "and", "or", "not", "known", "text", "size(t)", "f()", "[]", '"a"', "- 1", ".", ","]
        for line in bad:
            self.bad_line(1, "recipe t", line)

    def test_expressions_that_are_none(self):
        for text in ["", "()", "(1", "1)", "(1))", "[1", "1]", "[,]", "[1,]", "[,1]", "[1 2]", "(1, 2)", "1 +", "+ 1", "1 + + 2",
                     "* 1", "1 * ", "1 * * 2", "1 mod", "mod 1", "1 else", "else 1", "& t", "t t", "t u", "1 2", "t()(",
                     "t(", "t(1", "t(1,", "t(,)", "t(1,)", "t(1 2)", "size", "size t", "size[t]", "-", "--", "1 - ", "size(",
                     "mod(1, 2)", "text(t)", "known(t)", "not t", "known t", "1 = 1", "1 and 2", "t . u", "t, u", "1 < 2",
                     "1(2)", '"a"("b")', "(t)(u)", "[t](u)", "[t][0]", "t.u", "else", "in", "list"]:
            self.bad_line(1, "recipe t u", f"let z = {text}")

    def test_one_to_four_reads(self):
        reads = [f'v{at} from "a" . "b{at}"' for at in range(5)]
        for many in range(1, 5):
            self.good("recipe", "read " + ", ".join(reads[:many]))
        self.bad_line(1, "recipe", "read " + ", ".join(reads))
        self.bad_line(1, "recipe", "read " + " ".join(reads[:2]))

    def test_no_to_four_parameters(self):
        parameters = [f"{kind} v{at}" for at, kind in enumerate(["text", "number", "list", "text", "number"])]
        for many in range(5):
            self.good("recipe", f"define f ({', '.join(parameters[:many])}) gives list", "end")
        self.bad_line(1, "recipe", f"define f ({', '.join(parameters)}) gives list", "end")


class PlacesTest(ProgramTest):

    def test_a_missing_end(self):
        self.bad_line(2, "recipe", "if 1 = 1")
        self.bad_line(3, "recipe", "if 1 = 1", "")
        self.bad_line(5, "recipe", "repeat 2", "for x in []", "end", "")
        self.bad_line(2, "recipe", "define f () gives text")
        self.bad_line(3, "recipe", "if 1 = 1", "else")

    def test_an_end_or_else_without_a_block(self):
        self.bad_line(1, "recipe", "end")
        self.bad_line(3, "recipe", "if 1 = 1", "end", "end")
        self.bad_line(1, "recipe", "else")
        self.bad_line(3, "recipe", "if 1 = 1", "end", "else", "end")

    def test_else(self):
        self.good("recipe", "if 1 = 1", "else", "end")
        self.good("recipe", "if 1 = 1", "if 1 = 2", "else", "end", "else", "if 1 = 1", "end", "end")
        self.bad_line(3, "recipe", "if 1 = 1", "else", "else", "end")
        self.bad_line(2, "recipe", "repeat 2", "else", "end")
        self.bad_line(2, "recipe", "for x in []", "else", "end")
        self.bad_line(3, "recipe", "if 1 = 1", "repeat 2", "else", "end", "end")
        self.bad_line(5, "recipe", "if 1 = 1", "else", "repeat 1", "end", "else", "end")
        self.bad_line(2, "recipe", "define f () gives text", "else", "end")

    def test_leave_and_again(self):
        for word in ["leave", "again"]:
            for loop in ["repeat 2", "repeat 2 as k", "for x in []"]:
                self.good("recipe", loop, word, "end")
                self.good("recipe", loop, "if 1 = 1", word, "else", word, "end", word, "end")
                self.bad_line(3, "recipe", loop, "end", word)
            self.bad_line(1, "recipe", word)
            self.bad_line(2, "recipe", "if 1 = 1", word, "end")
            self.bad_line(2, "recipe", "define f () gives text", word, "end")
            self.good("recipe", "define f () gives text", "repeat 2", word, "end", "end")

    def test_give(self):
        self.good("recipe", "define f () gives text", 'give "a"', "end")
        self.good("recipe", "define f () gives text", "repeat 2", "if 1 = 1", 'give "a"', "end", "end", "end")
        self.bad_line(1, "recipe", 'give "a"')
        self.bad_line(3, "recipe", "define f () gives text", "end", 'give "a"')
        self.bad_line(2, "recipe", "repeat 2", 'give "a"', "end")

    def test_steps_in_a_definition(self):
        for line in ['read a from "a" . "b"', 'write "a" = "b"', "stop"]:
            self.bad_line(2, "recipe", "define f () gives text", line, "end")
            self.bad_line(3, "recipe", "define f () gives text", "repeat 2", line, "end", "end")
            self.good("recipe", "define f () gives text", "end", line)

    def test_definitions(self):
        one, other = ["define f () gives text", "end"], ["define g () gives text", "let a = f()", "end"]
        self.assertEqual(self.good("recipe", *one, *other, "stop").functions, ("f", "g"))
        self.bad_line(2, "recipe", "stop", *one)
        self.bad_line(3, "recipe", "if 1 = 1", "end", *one)
        self.bad_line(2, "recipe", "if 1 = 1", *one, "end")
        self.bad_line(2, "recipe", "define f () gives text", "define g () gives text", "end", "end")
        self.bad_line(4, "recipe", *one, "stop", *other)
        self.bad_line(4, "recipe", *one, "let a = 1", *other)
        self.bad_line(5, "recipe", *one, "repeat 2", "end", *other)

    def test_the_first_line_at_fault(self):
        self.bad_line(2, "recipe", "if 1 = 1", "stop 1", "else", "else", "end")
        self.bad_line(1, "recipe", "leave", "A")
        self.bad_line(1, "recipe", "end", "let")
        self.bad_line(3, "recipe", "let a = b", "let a = 1 & 2", "let")
        self.bad_line(3, "recipe", "let a = b", "if 1 = 1")

    def test_depth_of_expressions(self):
        layers = [("(", ")"), ("[", "]"), ("-", ""), ("f(", ")"), ("size(", ")")]
        rows = ["recipe", "define f (number n) gives number", "end"]
        for begin, end in layers:
            for many, good in [(30, True), (31, False), (60, False)]:
                line = f"let a = {begin * many}1{end * many}"
                if not good:
                    self.bad_line(3, *rows, line)
                elif begin in ("(", "-", "f("):
                    self.good(*rows, line)
                else:
                    self.bad_kind(3, *rows, line)
        for (one, end), (other, closing) in itertools.product(layers, repeat=2):
            self.bad_line(3, *rows, f"let a = {one * 15}{other * 16}1{closing * 16}{end * 15}")

    def test_depth_of_empty_lists_and_calls(self):
        rows = ["recipe", "define f () gives list", "end"]
        self.good(*rows, f"let a = {'(' * 29}[]{')' * 29}")
        self.bad_line(3, *rows, f"let a = {'(' * 30}[]{')' * 30}")
        self.good(*rows, f"let a = {'(' * 29}f(){')' * 29}")
        self.bad_line(3, *rows, f"let a = {'(' * 30}f(){')' * 30}")

    def test_depth_side_by_side(self):
        deep = "(" * 30 + "1" + ")" * 30
        self.good("recipe", f"let a = {deep} + {deep} * {deep}", f"if {deep} = {deep} and not 1 = {deep[1:-1]}", "end")

    def test_depth_behind_what_is_closed(self):
        rows = ["recipe", "define f () gives number", "end"]
        for one in ["(1)", "-1", "f()", 'size("")', "size([])", "--1"]:
            self.good(*rows, "let a = " + " + ".join([one] * 40))
            self.good(*rows, f"let a = {one} + {'(' * 30}1{')' * 30}")
            self.bad_line(3, *rows, f"let a = {one} + {'(' * 31}1{')' * 31}")
            self.bad_line(3, *rows, f"if {one} = 1 and not {one} = {'(' * 31}1{')' * 31}", "end")
        self.good(*rows, "let a = " + " & ".join(["[]"] * 40))

    def test_depth_of_not(self):
        self.good("recipe", "if " + "not " * 30 + "1 = 1", "end")
        self.bad_line(1, "recipe", "if " + "not " * 31 + "1 = 1", "end")
        self.good("recipe", "if " + "not " * 29 + "1 = (1)", "end")
        self.bad_line(1, "recipe", "if " + "not " * 30 + "1 = (1)", "end")
        self.bad_line(1, "recipe", "if 1 = 1 or " + "not " * 30 + "-1 = 1", "end")
        self.good("recipe", "if " + "not " * 30 + "1 = 1 and " + "not " * 30 + "1 = 1 and 1 = " + "-" * 30 + "1", "end")

    def test_depth_of_blocks(self):
        blocks = ["if 1 = 1", "repeat 1", "for x in []"]
        for block in blocks[:2]:
            self.good("recipe", *[block] * 30, *["end"] * 30)
            self.bad_line(31, "recipe", *[block] * 31, *["end"] * 31)
        self.good("recipe", *["if 1 = 1", "else"] * 30, *["end"] * 30)
        self.bad_line(61, "recipe", *["if 1 = 1", "else"] * 31, *["end"] * 31)
        self.good("recipe", "define f () gives text", *["repeat 1"] * 29, *["end"] * 30)
        self.bad_line(31, "recipe", "define f () gives text", *["repeat 1"] * 30, *["end"] * 31)
        self.bad_line(31, "recipe", *["if 1 = 1"] * 30, "for x in []", *["end"] * 31)


class NamesTest(ProgramTest):

    def test_what_is_not_there(self):
        for line in ["let a = b", "let a = 1 + b", "let a = [b]", "set b = 1", "write b = b", 'read a from b . "x"',
                     'read a from "x" . b', "if b = 1", "if 1 = 1 or known b", "repeat b", "for a in b", "let a = b()",
                     "let a = size(b)"]:
            self.bad_name(1, "b", "recipe", line, *["end"] * line.startswith(("if", "repeat", "for")))

    def test_the_first_from_the_left(self):
        self.bad_name(1, "b", "recipe", "let a = b + c")
        self.bad_name(1, "b", "recipe", "set b = c")
        self.bad_name(1, "c", "recipe b", "set b = c")
        self.bad_name(1, "f", "recipe", "let a = f(b, c)")
        self.bad_name(1, "b", "recipe", "repeat b as b", "end")
        self.bad_name(1, "t", "recipe t", "let t = b")
        self.bad_name(1, "d", "recipe t", 'read a from t . d, a from "x" . "y"')
        self.bad_name(1, "a", "recipe t", 'read a from t . t, a from b . "y"')
        self.bad_name(1, "b", "recipe t", "if t = b and c = d", "end")
        self.bad_name(1, "t", "recipe t", "define t (text a, text a) gives text", "end")
        self.bad_name(1, "a", "recipe", "define f (text a, number a, text f) gives text", "end")

    def test_a_line_does_not_see_what_it_introduces(self):
        self.bad_name(1, "a", "recipe", "let a = a")
        self.bad_name(1, "a", "recipe", 'read a from "x" . "y", b from a else "x" . "y"')
        self.bad_name(1, "x", "recipe", "for x in x", "end")
        self.bad_name(1, "k", "recipe", "repeat k as k", "end")
        self.good("recipe", "let a = 1", "let b = a")

    def test_introduced_twice(self):
        for line in ["let t = 1", 'read t from "x" . "y"', "repeat 1 as t", "for t in []"]:
            self.bad_name(1, "t", "recipe t", line, *["end"] * line.startswith(("repeat", "for")))
            self.bad_name(3, "t", "recipe", "let t = 1", "if 1 = 1", line, "end", *["end"] * line.startswith(("repeat", "for")))
        self.bad_name(1, "a", "recipe", 'read a from "x" . "y", a from "x" . "z"')
        self.bad_name(2, "k", "recipe", "repeat 2 as k", "let k = 1", "end")
        self.bad_name(2, "x", "recipe", "for x in []", "repeat 1 as x", "end", "end")
        self.bad_name(1, "a", "recipe", "define f (text a, number a) gives text", "end")
        self.bad_name(2, "a", "recipe", "define f (text a) gives text", "let a = 1", "end")

    def test_visible_to_the_end_of_the_part(self):
        self.good("recipe", "if 1 = 1", "let a = 1", "let b = a", "else", "let a = 2", "let c = a", "end", "let a = 3")
        self.bad_name(4, "a", "recipe", "if 1 = 1", "let a = 1", "else", "let b = a", "end")
        self.bad_name(4, "a", "recipe", "if 1 = 1", "let a = 1", "end", "let b = a")
        self.bad_name(6, "a", "recipe", "if 1 = 1", "else", "let a = 1", "let c = a", "end", "set a = 2")
        self.bad_name(4, "a", "recipe", "repeat 2", "let a = 1", "end", "set a = 2")
        self.good("recipe", "let a = 1", "repeat 2", "if 1 = 1", "else", "set a = a + 1", "end", "end", "set a = 1")
        self.good("recipe", "repeat 2", "let a = 1", "end", "repeat 2", "let a = 1", "end", "let a = 2")

    def test_variables_of_loops(self):
        self.good("recipe", "repeat 2 as k", "let a = k", "end", "for k in []", "let a = k", "end", "let k = 1")
        self.bad_name(3, "k", "recipe", "repeat 2 as k", "end", "let a = k")
        self.bad_name(3, "x", "recipe", "for x in []", "end", "let a = x")
        self.bad_name(2, "k", "recipe", "repeat 2 as k", "set k = 1", "end")
        self.bad_name(2, "x", "recipe", "for x in []", 'set x = "a"', "end")
        self.bad_name(3, "x", "recipe", "for x in []", "if 1 = 1", 'set x = "a"', "end", "end")

    def test_what_may_be_set(self):
        self.good("recipe t", 'set t = "a"', "let n = 1", "set n = 2", "if 1 = 1", "set n = 3", "end")
        self.good("recipe", "define f (number n) gives number", "set n = n + 1", "give n", "end")
        self.good("recipe", 'read a from "x" . "y", b from "x" . "z"', "set a = b")
        self.bad_name(3, "f", "recipe", "define f () gives text", "end", 'set f = "a"')

    def test_definitions_do_not_see_the_first_line(self):
        self.bad_name(2, "t", "recipe t", "define f () gives text", "give t", "end")
        self.bad_name(2, "t", "recipe t", "define f () gives text", 'set t = "a"', "end")
        self.good("recipe t", "define f (number t) gives number", "give t", "end", 'set t = "a"')
        self.good("recipe t", "define f () gives number", "let t = 1", "give t", "end", 'let a = t & "a"')
        self.good("recipe t", "define f () gives text", "for t in []", "give t", "end", "end", 'set t = "a"')
        self.bad_name(5, "a", "recipe t", "define f (text a) gives text", "let b = a", "end", "let b = t", "let c = a")
        self.bad_name(4, "b", "recipe t", "define f (text a) gives text", "let b = a", "end", "set b = t")
        self.good("recipe t", "define f (text a) gives text", "let b = a", "end",
                  "define g (text b) gives text", "let a = b", "end", "let a = t", "let b = t")

    def test_functions_are_called_behind_their_blocks(self):
        self.bad_name(2, "f", "recipe", "define f () gives text", "give f()", "end")
        self.bad_name(2, "g", "recipe", "define f () gives text", "give g()", "end", "define g () gives text", "end")
        self.bad_name(1, "f", "recipe", "let a = f()", )
        self.good("recipe", "define f () gives text", "end", "define g () gives text", "give f()", "end", "let a = g()")

    def test_functions_and_variables(self):
        self.bad_name(3, "f", "recipe", "define f () gives text", "end", "let a = f")
        self.bad_name(3, "f", "recipe", "define f () gives text", "end", "let f = 1")
        self.bad_name(3, "f", "recipe", "define f () gives text", "end", "repeat 1 as f", "end")
        self.bad_name(1, "t", "recipe t", "let a = t()")
        self.bad_name(1, "t", "recipe t", "let a = t(t)")
        self.bad_name(2, "f", "recipe", "define f () gives text", "let f = 1", "end")
        self.bad_name(1, "f", "recipe", "define f (text f) gives text", "end")
        self.bad_name(3, "f", "recipe", "define f () gives text", "end", "define g (text f) gives text", "end")
        self.bad_name(4, "f", "recipe", "define f () gives text", "end", "define g () gives text", "let f = 1", "end")
        self.good("recipe", "define f (text g) gives text", "let h = g", "end", "define g () gives text", "end",
                  "define h () gives text", "end")

    def test_names_of_functions(self):
        self.bad_name(1, "t", "recipe s t", "define t () gives text", "end")
        self.bad_name(3, "f", "recipe", "define f () gives text", "end", "define f () gives text", "end")

    def test_names_and_kinds(self):
        self.bad_name(1, "b", "recipe", "let a = 1 & 2 & b")
        self.bad_name(1, "b", "recipe t", "let a = (t + 1) * b")
        self.bad_kind(1, "recipe", "let a = 1 & 2", "let c = b")
        self.bad_name(1, "b", "recipe", "let a = b", "let c = 1 & 2")
        self.bad_name(3, "t", "recipe t", "define f () gives text", "end", "let t = f(1)")
        self.bad_kind(3, "recipe t", "define f () gives text", "end", "let a = f(1)", "let t = 1")


class KindsTest(ProgramTest):

    OF = {"text": "t", "number": "n", "list": "l", "answer": "x"}
    KINDS = ["text", "number", "list", "answer"]
    FUNCTIONS = {"size": [["text"], ["list"]], "part": [["text", "number", "number"]], "find": [["text", "text"]],
                 "split": [["text", "text"]], "join": [["list", "text"]], "item": [["list", "number"]],
                 "sorted": [["list"]], "turned": [["list"]], "times": [["text", "number"]], "value": [["text"]],
                 "digits": [["number"]]}
    GIVES = {"size": "number", "part": "text", "find": "number", "split": "list", "join": "text", "item": "text",
             "sorted": "list", "turned": "list", "times": "text", "value": "number", "digits": "text"}

    def check(self, good, text, *before):
        if good:
            self.right(text, *before)
        else:
            self.wrong(text, *before)

    def test_operators(self):
        for left, right in itertools.product(self.KINDS, repeat=2):
            one, two = self.OF[left], self.OF[right]
            for sign in ["+", "-", "*", "/", "mod"]:
                self.check(left == right == "number", f"{one} {sign} {two}")
            self.check(left == right and left in ("text", "list"), f"{one} & {two}")
            self.check(left == "answer" and right in ("text", "answer"), f"{one} else {two}")

    def test_minus(self):
        for kind in self.KINDS:
            self.check(kind == "number", "-" + self.OF[kind])

    def test_lists(self):
        for kind in self.KINDS:
            self.check(kind == "text", f"[{self.OF[kind]}]")
            self.check(kind == "text", f"[t, u, {self.OF[kind]}, t]")
        self.right("[]")

    def test_kinds_of_results(self):
        for sign, kind in [("+", "n"), ("mod", "n"), ("&", "t"), ("&", "l")]:
            for other in "tnlx":
                self.check(other == kind and kind != "t" or kind == other == "t", f"({kind} {sign} {kind}) {sign} {other}")
        self.right('(x else y) else "a"')
        self.right('(x else "a") & t')
        self.wrong('(x else y) & t')
        self.wrong('(x else "a") else t')
        self.right("(x else y) else y")
        self.right("size([t]) + 1")
        self.right('[t & "a"] & l')

    def test_functions(self):
        for name, forms in self.FUNCTIONS.items():
            for many in range(4):
                for kinds in itertools.product(self.KINDS, repeat=many):
                    inner = ", ".join(self.OF[kind] for kind in kinds)
                    self.check(list(kinds) in forms, f"{name}({inner})")
            inner = ", ".join(self.OF[kind] for kind in forms[0])
            self.wrong(f"{name}({inner}, t)")
            for kind, test in [("text", "& t"), ("number", "+ n"), ("list", "& l")]:
                self.check(kind == self.GIVES[name], f"{name}({inner}) {test}")

    def test_own_functions(self):
        rows = ["recipe t", "define f (text a, number b, list c) gives number", "end", "define g () gives list", "end",
                "let n = 1", 'let l = ["a"]', 'read x from "a" . "b"']
        for inner in itertools.product(self.OF.values(), repeat=3):
            call = f"let z = f({', '.join(inner)})"
            if inner == ("t", "n", "l"):
                self.good(*rows, call)
            else:
                self.bad_kind(len(rows), *rows, call)
        for call in ["f()", "f(t)", "f(t, n)", "f(t, n, l, t)", "g(t)", "g(g())", "f(t, n, l) & t", "g() + 1"]:
            self.bad_kind(len(rows), *rows, f"let z = {call}")
        self.good(*rows, "let z = f(t, f(t, n, g()), g() & l) + 1")

    def test_tests(self):
        for left, right in itertools.product(self.KINDS, repeat=2):
            for sign in ["=", "!=", "<", "<=", ">", ">=", "in"]:
                good = left == right and left in ("text", "number")
                if sign in ("=", "!="):
                    good = left == right and left != "answer"
                if sign == "in":
                    good = left == "text" and right in ("text", "list")
                self.condition(good, f"{self.OF[left]} {sign} {self.OF[right]}")
        for kind in self.KINDS:
            self.condition(kind == "answer", "known " + self.OF[kind])

    def condition(self, good, test):
        rows = ["recipe t", "let n = 1", "let l = [t]", 'read x from "a" . "b"']
        for line in [f"if {test}", f"if not not {test}", f"if 1 = 1 and {test} or t = t", f"if t in l or 1 = 1 and {test}"]:
            if good:
                self.good(*rows, line, "end")
            else:
                self.bad_kind(4, *rows, line, "end")

    def test_statements(self):
        rows = ["recipe t u", "let n = 1", "let l = [t]", 'read x from "a" . "b", y from "a" . "c"']
        for kind, name in self.OF.items():
            for line, wanted in [(f"write {name} = t", "text"), (f"write t = {name}", "text"), (f"repeat {name}", "number"),
                                 (f"repeat {name} as k", "number"), (f"for i in {name}", "list"), (f"set n = {name}", "number"),
                                 (f"set u = {name}", "text"), (f"set l = {name}", "list"), (f"set y = {name}", "answer"),
                                 (f"read z from {name} . t", "text"), (f"read z from t . {name}", "text"),
                                 (f"read z from t . t, w from t . {name}", "text")]:
                ends = ["end"] * line.startswith(("repeat", "for"))
                if kind == wanted:
                    self.good(*rows, line, *ends)
                else:
                    self.bad_kind(4, *rows, line, *ends)
            self.good(*rows, f"let z = {name}", f"set z = {name}")

    def test_kinds_of_variables(self):
        self.good("recipe", "repeat 2 as k", "let a = k + 1", "end", "for i in []", 'let a = i & "b"', "end")
        self.bad_kind(2, "recipe", "repeat 2 as k", 'let a = k & "b"', "end")
        self.bad_kind(2, "recipe", "for i in []", "let a = i + 1", "end")
        self.bad_kind(2, "recipe", 'read x from "a" . "b"', 'set x = "a"')
        self.bad_kind(3, "recipe", 'read x from "a" . "b"', "let a = x", 'let b = a & "b"')

    def test_give(self):
        values = {"text": '"a"', "number": "1", "list": "[]"}
        for gives, kind in itertools.product(values, repeat=2):
            rows = ["recipe", f"define f ({kind} p) gives {gives}", "give p", "end"]
            if gives == kind:
                self.good(*rows)
            else:
                self.bad_kind(2, *rows)
        self.bad_kind(4, "recipe", "define f () gives text", "end", "define g () gives number", "give f()", "end")
        self.good("recipe", "define f () gives text", "end", "define g () gives text", "give f()", "end")

    def test_the_first_line_with_an_error(self):
        self.bad_kind(2, "recipe t", "let a = 1", "let b = t + 1", "let c = t + 2")


class TextTest(ProgramTest):

    def test_the_example(self):
        program = self.reads('recipe who\nlet n=size(who)+(1*2)\nif not n > 4\nwrite "short" = who&"!"\nend',
                             'recipe who\nlet n = size(who) + 1 * 2\nif not n > 4\n  write "short" = who & "!"\nend')
        self.assertEqual(program.arguments, ("who",))
        self.assertEqual(program.functions, ())

    def test_indentation(self):
        plain = ["recipe", "define f (text a, list b) gives text", "  repeat 2", '    give ""', "  end", "end", "repeat 2 as k",
                 "  if 1 = 1", "    for i in []", "      leave", "    end", "  else", "    stop", "  end", "end"]
        self.reads("\n".join(plain), "\n".join(plain))
        self.reads("\n".join(row.strip() for row in plain), "\n".join(plain))
        self.reads("\n\n".join("    " + row.strip() + "  " for row in plain), "\n".join(plain))

    def test_spaces_between_tokens(self):
        self.reads('recipe a b\ndefine f(text c,number d)gives text\nend\ndefine g()gives list\nend\n'
                   'read x from a."b",y from"c". b\nwrite a=f(b,-1)\nlet l=[a,b]&[]&g()\nif known x and a in l\nend',
                   'recipe a b\ndefine f (text c, number d) gives text\nend\ndefine g () gives list\nend\n'
                   'read x from a . "b", y from "c" . b\nwrite a = f(b, -1)\nlet l = [a, b] & [] & g()\n'
                   'if known x and a in l\nend')

    def test_parentheses_between_two_operators(self):
        level = {"+": 1, "-": 1, "*": 2, "/": 2, "mod": 2}
        for one, two in itertools.product(level, repeat=2):
            left, right = f"(n {one} 1) {two} 2", f"n {one} (1 {two} 2)"
            plain = f"n {one} 1 {two} 2"
            self.expression(left, plain if level[one] >= level[two] else left)
            self.expression(right, plain if level[two] > level[one] else right)
            self.expression(plain, plain)

    def test_parentheses_of_texts_and_lists(self):
        for one in ["t", "l"]:
            self.expression(f"({one} & {one}) & {one}", f"{one} & {one} & {one}")
            self.expression(f"{one} & ({one} & {one})", f"{one} & ({one} & {one})")
            self.expression(f"({one} & ({one}) & ({one} & {one}))", f"{one} & {one} & ({one} & {one})")

    def test_parentheses_beside_else(self):
        read = 'read x from "a" . "b", y from "a" . "c"'
        for text, plain in [("(x else y) else t", "x else y else t"), ("x else (y else t)", "x else (y else t)"),
                            ('(x else t) & t', '(x else t) & t'), ("t & (x else t)", "t & (x else t)"),
                            ("x else (t & t)", "x else t & t"), ("(x) else (t)", "x else t"),
                            ("x else t & t & t", "x else t & t & t"), ("size(x else t)", "size(x else t)"),
                            ("[(x else t), (t & t)]", "[x else t, t & t]")]:
            self.expression(text, plain, read)

    def test_parentheses_beside_minus_signs(self):
        for text, plain in [("-(1)", "-1"), ("-(-1)", "--1"), ("- - - 1", "---1"), ("-(n + 1)", "-(n + 1)"),
                            ("-(n * 1)", "-(n * 1)"), ("(-n) * 2", "-n * 2"), ("n * (-1)", "n * -1"), ("n - (-1)", "n - -1"),
                            ("n - -1", "n - -1"), ("n--1", "n - -1"), ("-(size(t))", "-size(t)"), ("-((n))", "-n"),
                            ("(-(n)) + 1", "-n + 1"), ("-n - n", "-n - n"), ("-(n - n)", "-(n - n)"),
                            ("(-(n mod 2)) mod 2", "-(n mod 2) mod 2")]:
            self.expression(text, plain)

    def test_parentheses_that_go(self):
        for text, plain in [("((n))", "n"), ("(1)", "1"), ('("a")', '"a"'), ("([])", "[]"), ("[(t)]", "[t]"),
                            ("size((t))", "size(t)"), ("(size(t))", "size(t)"), ("((n + 1))", "n + 1"),
                            ("part((t & t), (1 + 2), (3))", "part(t & t, 1 + 2, 3)"), ("(n * 2) + (n / 3)", "n * 2 + n / 3")]:
            self.expression(text, plain)

    def test_parentheses_in_statements(self):
        self.reads('recipe t\nwrite (t) = (t & t)\nrepeat (3)\nend\nfor i in ([t])\nend\nread x from (t) . (t)\n'
                   'if (t) = (t) and not (1 + 2) < (3)\nend\nset t = (t)',
                   'recipe t\nwrite t = t & t\nrepeat 3\nend\nfor i in [t]\nend\nread x from t . t\n'
                   'if t = t and not 1 + 2 < 3\nend\nset t = t')

    def test_conditions(self):
        for text in ["1 = 1 and 2 = 2 or 3 = 3", "not not 1 = 1", "1 = 1 or not 2 <= 3 and 4 >= 5 or t in t", "t != t"]:
            self.reads(f"recipe t\nif {text}\nend", f"recipe t\nif {text}\nend")

    def test_long_chains(self):
        for sign in ["+", "-", "*"]:
            text = "1" + f"{sign}1" * 1900
            self.expression(text, text.replace(sign, f" {sign} "))
        self.expression("-".join(["(1"] + ["1)"] * 1), "1 - 1")
        self.expression("[" + ",".join(["t"] * 1500) + "]", "[" + ", ".join(["t"] * 1500) + "]")
        self.reads("recipe\nif " + " or ".join(["1 = 1"] * 300) + "\nend")

    def test_equal(self):
        one = Program.read("recipe a\nlet b=(a)")
        self.assertIs(one == Program.read("\nrecipe  a\nlet b = a"), True)
        self.assertIs(one != Program.read("\nrecipe  a\nlet b = a"), False)
        self.assertIs(one == Program.read("recipe a\nlet c = a"), False)
        self.assertIs(Program.read("recipe") == Program.read("recipe\nstop"), False)
        for value in [None, one.text, (), 0]:
            self.assertIs(one == value, False)

    def test_arguments_and_functions(self):
        program = self.good("recipe d a", "define z () gives text", "end", "define b (text q) gives list", "end", "stop")
        self.assertEqual(program.arguments, ("d", "a"))
        self.assertEqual(program.functions, ("z", "b"))
        for value in [program.arguments, program.functions]:
            self.assertIs(type(value), tuple)

    def test_interface(self):
        self.assertEqual(Program.read(text="recipe").text, "recipe")
        for name in ["read", "text", "arguments", "functions", "__eq__"]:
            self.assertIn(name, vars(Program))
        self.assertIsInstance(vars(Program)["read"], classmethod)

    def test_programs_by_chance(self):
        for seed in range(300):
            script = Script(seed)
            plain = script.text()
            program = self.reads(script.text(noisy=True), plain)
            self.assertEqual(program, self.reads(plain, plain))
            self.assertEqual(program.arguments, tuple(script.arguments))
            self.assertEqual(program.functions, tuple(name for _, name, _, _, _ in script.definitions))


if __name__ == "__main__":
    unittest.main()
