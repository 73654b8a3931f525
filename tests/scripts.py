"""Programs by chance: each as a tree, as a text in its plain form, as a text with more spaces and parentheses, and as
what it does by the words of stage 7, one statement after the other."""

import random

NAMES = ["aa", "bb", "cc", "dd", "ee", "ff", "gg", "hh"]
TEXTS = ["", "a", "ab", "lib", "x1", "b a b", "7", "-12", "0", "  ", "(x)", "recipe", "3:a", "]"]
LEVELS = {"else": 0, "+": 1, "-": 1, "&": 1, "*": 2, "/": 2, "mod": 2}
FUNCTIONS = {
    "number": [("size", ["text"]), ("size", ["list"]), ("find", ["text", "text"]), ("value", ["text"])],
    "text": [("part", ["text", "number", "number"]), ("join", ["list", "text"]), ("item", ["list", "number"]),
             ("times", ["text", "number"]), ("digits", ["number"])],
    "list": [("split", ["text", "text"]), ("sorted", ["list"]), ("turned", ["list"])],
}


class Stop(Exception):
    pass


class Leave(Exception):
    pass


class Again(Exception):
    pass


class Give(Exception):
    def __init__(self, value):
        self.value = value


class Script:
    """A program by chance."""

    def __init__(self, seed):
        self.chance = random.Random(seed)
        self.functions, self.definitions, self.variables = [], [], []
        self.arguments = self.chance.sample(NAMES, self.chance.randint(0, 3))
        for name in self.chance.sample(["f", "g", "h"], self.chance.randint(0, 2)):
            self.define(name)
        self.variables = [(name, "text", True) for name in self.arguments]
        self.body = self.block(4, 0, None)

    def define(self, name):
        kinds = [self.chance.choice(["text", "number", "list"]) for _ in range(self.chance.randint(0, 3))]
        gives = self.chance.choice(["text", "number", "list"])
        names = self.chance.sample(NAMES, len(kinds))
        self.variables = [(other, kind, True) for other, kind in zip(names, kinds)]
        body = self.block(2, 0, gives)
        self.definitions.append(("define", name, list(zip(kinds, names)), gives, body))
        self.functions.append((name, kinds, gives))

    # Trees. A statement within a loop may leave it; a statement within a definition gives values of a kind.

    def block(self, depth, loops, gives):
        seen = len(self.variables)
        body = [self.statement(depth, loops, gives) for _ in range(self.chance.randint(1, 4))]
        del self.variables[seen:]
        return body

    def free_name(self):
        taken = [name for name, _, _ in self.variables]
        return self.chance.choice([name for name in NAMES + [f"v{n}" for n in range(60)] if name not in taken][:3])

    def statement(self, depth, loops, gives):
        kinds = ["let", "let", "set", "if", "repeat", "for"] if depth else ["let", "set"]
        kinds += ["give"] if gives else ["read", "read", "read", "write", "write", "write"]
        if loops:
            kinds += ["leave", "again"]
        if not gives and self.chance.random() < 0.05:
            return ("stop",)
        return getattr(self, "make_" + self.chance.choice(kinds))(depth, loops, gives)

    def make_let(self, depth, loops, gives):
        kind = self.chance.choice(["text", "number", "list"])
        value, name = self.expression(kind, 3), self.free_name()
        self.variables.append((name, kind, True))
        return ("let", name, value)

    def make_set(self, depth, loops, gives):
        free = [(name, kind) for name, kind, settable in self.variables if settable and kind != "answer"]
        if not free:
            return self.make_let(depth, loops, gives)
        name, kind = self.chance.choice(free)
        return ("set", name, self.expression(kind, 3))

    def make_give(self, depth, loops, gives):
        return ("give", self.expression(gives, 3))

    def make_read(self, depth, loops, gives):
        rows, names = [], []
        for _ in range(self.chance.randint(1, 3)):
            rows.append((self.name_text(), self.name_text()))
        for _ in rows:
            names.append(self.free_name())
            self.variables.append((names[-1], "answer", True))
        return ("read", [(name, *row) for name, row in zip(names, rows)])

    def name_text(self):
        head = ("text", self.chance.choice("abcdefgh") + self.chance.choice(["", "1", "lib"]))
        counters = [name for name, kind, settable in self.variables if kind == "number" and not settable]
        if counters and self.chance.random() < 0.9:
            for name in counters:
                head = ("op", "&", head, ("fun", "digits", [("var", name)]))
            return head
        return head if self.chance.random() < 0.9 else self.expression("text", 2)

    def make_write(self, depth, loops, gives):
        return ("write", self.name_text(), self.expression("text", 3))

    def make_if(self, depth, loops, gives):
        tests = self.condition()
        one = self.block(depth - 1, loops, gives)
        other = self.block(depth - 1, loops, gives) if self.chance.random() < 0.5 else None
        return ("if", tests, one, other)

    def make_repeat(self, depth, loops, gives):
        many = self.expression("number", 1) if self.chance.random() < 0.15 else ("number", self.chance.randint(0, 4))
        name = self.free_name() if self.chance.random() < 0.6 else None
        self.variables += [(name, "number", False)] if name else []
        body = self.block(depth - 1, loops + 1, gives)
        self.variables = [row for row in self.variables if row[0] != name]
        return ("repeat", many, name, body)

    def make_for(self, depth, loops, gives):
        value, name = self.expression("list", 2), self.free_name()
        self.variables.append((name, "text", False))
        body = self.block(depth - 1, loops + 1, gives)
        self.variables.pop()
        return ("for", name, value, body)

    def make_leave(self, depth, loops, gives):
        return ("leave",)

    def make_again(self, depth, loops, gives):
        return ("again",)

    def condition(self):
        return [[self.test() for _ in range(self.chance.randint(1, 2))] for _ in range(self.chance.randint(1, 2))]

    def test(self):
        nots = self.chance.choice([0, 0, 0, 1, 2])
        answers = [name for name, kind, _ in self.variables if kind == "answer"]
        if answers and self.chance.random() < 0.4:
            return (nots, "known", [("var", self.chance.choice(answers))])
        sign = self.chance.choice(["=", "!=", "<", "<=", ">", ">=", "in"])
        left = self.chance.choice({"=": ["text", "number", "list"], "!=": ["text", "number", "list"], "in": ["text"]}.get(
            sign, ["text", "number"]))
        right = self.chance.choice(["text", "list"]) if sign == "in" else left
        return (nots, sign, [self.expression(left, 2), self.expression(right, 2)])

    def expression(self, kind, depth):
        answers = [name for name, other, _ in self.variables if other == "answer"]
        if kind == "text" and answers and self.chance.random() < 0.3:
            left = ("var", self.chance.choice(answers))
            if self.chance.random() < 0.3:
                left = ("op", "else", left, ("var", self.chance.choice(answers)))
            return ("op", "else", left, self.expression("text", depth - 1))
        if depth <= 0 or self.chance.random() < 0.3:
            return self.leaf(kind)
        calls = [(name, kinds) for name, kinds, gives in self.functions if gives == kind]
        if calls and self.chance.random() < 0.3:
            name, kinds = self.chance.choice(calls)
            return ("call", name, [self.expression(other, depth - 1) for other in kinds])
        if self.chance.random() < 0.5:
            name, kinds = self.chance.choice(FUNCTIONS[kind])
            return ("fun", name, [self.expression(other, depth - 1) for other in kinds])
        if kind == "number":
            if self.chance.random() < 0.2:
                return ("neg", self.expression(kind, depth - 1))
            sign = self.chance.choice(["+", "+", "+", "-", "-", "-", "*", "*", "/", "mod"])
            return ("op", sign, self.expression(kind, depth - 1), self.expression(kind, depth - 1))
        return ("op", "&", self.expression(kind, depth - 1), self.expression(kind, depth - 1))

    def leaf(self, kind):
        free = [("var", name) for name, other, _ in self.variables if other == kind]
        if free and self.chance.random() < 0.6:
            return self.chance.choice(free)
        if kind == "number":
            return ("number", self.chance.choice([0, 1, 1, 2, 3, 4, 5, 7, 8, 9, 40, 999999999999]))
        if kind == "text":
            return ("text", self.chance.choice(TEXTS))
        return ("list", [self.expression("text", 0) for _ in range(self.chance.randint(0, 3))])

    # Texts. The noisy one has parentheses and spaces where they do not matter.

    def text(self, noisy=False):
        self.noisy = noisy
        rows = ["recipe" + "".join(" " + name for name in self.arguments)]
        for _, name, parameters, gives, body in self.definitions:
            inner = ", ".join(f"{kind} {other}" for kind, other in parameters)
            rows += [f"define {name} ({inner}) gives {gives}", *self.rows(body, 1), "end"]
        rows += self.rows(self.body, 0)
        if noisy:
            rows = [self.spread(row) for row in rows]
        return "\n".join(rows)

    def spread(self, row):
        """A line with other spaces, perhaps behind an empty one."""
        pieces = row.split('"')
        for at in range(0, len(pieces), 2):
            for sign in "()[],.+*/&=<>":
                if self.chance.random() < 0.5:
                    pieces[at] = pieces[at].replace(f" {sign} ", sign).replace(f"{sign} ", sign)
            if self.chance.random() < 0.3:
                pieces[at] = pieces[at].replace(" ", "  ")
        return self.chance.choice(["", "  ", "\n", " \n  "]) + '"'.join(pieces) + self.chance.choice(["", " "])

    def rows(self, body, depth):
        rows = []
        for statement in body:
            rows += self.statement_rows(statement, depth)
        return rows

    def statement_rows(self, statement, depth):
        word, gap, shown = statement[0], "  " * depth, self.shown
        if word in ("let", "set"):
            return [f"{gap}{word} {statement[1]} = {shown(statement[2])}"]
        if word == "give":
            return [f"{gap}give {shown(statement[1])}"]
        if word == "read":
            return [gap + "read " + ", ".join(f"{name} from {shown(one)} . {shown(two)}" for name, one, two in statement[1])]
        if word == "write":
            return [f"{gap}write {shown(statement[1])} = {shown(statement[2])}"]
        if word == "if":
            head = " or ".join(" and ".join(self.shown_test(test) for test in group) for group in statement[1])
            other = [] if statement[3] is None else [gap + "else", *self.rows(statement[3], depth + 1)]
            return [f"{gap}if {head}", *self.rows(statement[2], depth + 1), *other, gap + "end"]
        if word == "repeat":
            name = f" as {statement[2]}" if statement[2] else ""
            return [f"{gap}repeat {shown(statement[1])}{name}", *self.rows(statement[3], depth + 1), gap + "end"]
        if word == "for":
            head = f"{gap}for {statement[1]} in {shown(statement[2])}"
            return [head, *self.rows(statement[3], depth + 1), gap + "end"]
        return [gap + word]

    def shown_test(self, test):
        nots, name, values = test
        head = "not " * nots
        if name == "known":
            return head + "known " + self.shown(values[0])
        return f"{head}{self.shown(values[0])} {name} {self.shown(values[1])}"

    def shown(self, tree, least=0):
        level, text = self.shown_at(tree)
        more = self.noisy and self.chance.random() < 0.15
        return f"({text})" if level < least or more else text

    def shown_at(self, tree):
        word = tree[0]
        if word == "number":
            return 3, str(tree[1])
        if word == "text":
            return 3, f'"{tree[1]}"'
        if word == "var":
            return 3, tree[1]
        if word == "list":
            return 3, "[" + ", ".join(self.shown(part) for part in tree[1]) + "]"
        if word == "neg":
            return 3, "-" + self.shown(tree[1], 3)
        if word == "op":
            level = LEVELS[tree[1]]
            return level, f"{self.shown(tree[2], level)} {tree[1]} {self.shown(tree[3], level + 1)}"
        return 3, tree[1] + "(" + ", ".join(self.shown(part) for part in tree[2]) + ")"


class Doing:
    """What a script does."""

    def __init__(self, script, name, arguments):
        self.script, self.name, self.arguments = script, name, arguments
        self.rows, self.written, self.answers, self.count, self.turns = script.text().split("\n"), [], [], 0, 0
        self.number, self.loops, self.visible = 0, [], []
        self.number_all()

    def number_all(self):
        """Gives each statement the number of its line, by its identity."""
        self.lines, at = {}, 1
        for _, _, _, _, body in self.script.definitions:
            at = self.number_block(body, at + 1) + 1
        self.number_block(self.script.body, at)

    def number_block(self, body, at):
        for statement in body:
            self.lines[id(statement)] = at
            at += 1
            if statement[0] == "if":
                at = self.number_block(statement[2], at)
                if statement[3] is not None:
                    at = self.number_block(statement[3], at + 1)
                at += 1
            elif statement[0] in ("repeat", "for"):
                at = self.number_block(statement[3], at) + 1
        return at

    def steps(self):
        """Yields each step with what `saved` should tell there; is sent answers."""
        given = list(self.arguments)[:len(self.script.arguments)]
        given += [""] * (len(self.script.arguments) - len(given))
        variables = dict(zip(self.script.arguments, given))
        self.visible = list(self.script.arguments)
        try:
            yield from self.block(self.script.body, variables)
        except Stop:
            pass
        yield ("stop",), self.head() + "\nat end"

    def head(self):
        rows = [" ".join(["run", self.word(self.name), *map(self.word, self.arguments)])]
        rows += [" ".join(["answers", *map(self.word, row)]) for row in self.answers]
        return "\n".join([*rows, " ".join(["written", *self.written]), f"count {self.count}"])

    def word(self, value):
        if isinstance(value, list):
            return " ".join(["[", *map(self.word, value), "]"])
        if isinstance(value, int):
            return str(value)
        return "-" if value is None else f"{len(value)}:{value}"

    def saved(self, number, turns, variables):
        rows = [self.head(), f"at {number} {turns}"]
        rows += [f"loop {line} {at} {self.word(bound)}" for line, at, bound in self.loops]
        rows += [f"let {name} {self.word(variables[name])}" for name in self.visible]
        return "\n".join(rows)

    def turn(self):
        self.turns += 1
        if self.turns > 300:
            raise Stop()

    def block(self, body, variables):
        seen = len(self.visible)
        try:
            for statement in body:
                before = self.turns
                self.turn()
                yield from getattr(self, "do_" + statement[0])(statement, variables, before)
        finally:
            del self.visible[seen:]

    def do_let(self, statement, variables, before):
        variables[statement[1]] = self.value(statement[2], variables)
        self.visible.append(statement[1])
        yield from ()

    def do_set(self, statement, variables, before):
        variables[statement[1]] = self.value(statement[2], variables)
        yield from ()

    def do_give(self, statement, variables, before):
        raise Give(self.value(statement[1], variables))
        yield

    def do_stop(self, statement, variables, before):
        raise Stop()
        yield

    def do_leave(self, statement, variables, before):
        raise Leave()
        yield

    def do_again(self, statement, variables, before):
        raise Again()
        yield

    def is_name(self, text):
        return 1 <= len(text) <= 8 and text[0].isalpha() and text.isalnum() and text.lower() == text

    def do_read(self, statement, variables, before):
        keys = [tuple(self.value(part, variables) for part in parts) for _, *parts in statement[1]]
        if not all(self.is_name(target) and self.is_name(output) for target, output in keys) or len(set(keys)) < len(keys):
            raise Stop()
        answers = yield ("read", tuple(keys)), self.saved(self.lines[id(statement)], before, variables)
        self.answers.append(answers)
        self.turns = self.count = 0
        for (name, *_), answer in zip(statement[1], answers):
            variables[name] = answer
            self.visible.append(name)

    def do_write(self, statement, variables, before):
        output, text = self.value(statement[1], variables), self.value(statement[2], variables)
        if not self.is_name(output) or output in self.written:
            raise Stop()
        yield ("write", output, text), self.saved(self.lines[id(statement)], before, variables)
        self.written.append(output)
        self.count += 1
        self.turns = 0

    def do_if(self, statement, variables, before):
        holds = any(all(self.holds(test, variables) for test in group) for group in statement[1])
        yield from self.block(statement[2] if holds else statement[3] or [], variables)

    def do_repeat(self, statement, variables, before):
        many = self.value(statement[1], variables)
        yield from self.rounds(statement, range(many), many, statement[2], variables)

    def do_for(self, statement, variables, before):
        value = self.value(statement[2], variables)
        yield from self.rounds(statement, value, value, statement[1], variables)

    def rounds(self, statement, values, bound, name, variables):
        seen, loops = len(self.visible), len(self.loops)
        try:
            for at, value in enumerate(values):
                self.turn()
                del self.loops[loops:], self.visible[seen:]
                self.loops.append((self.lines[id(statement)], at, bound))
                if name:
                    variables[name] = value
                    self.visible.append(name)
                try:
                    yield from self.block(statement[3], variables)
                except Again:
                    pass
        except Leave:
            pass
        finally:
            del self.loops[loops:], self.visible[seen:]

    def holds(self, test, variables):
        nots, name, trees = test
        values = [self.value(tree, variables) for tree in trees]
        truth = {"known": lambda a: a is not None, "=": lambda a, b: a == b, "!=": lambda a, b: a != b,
                 "<": lambda a, b: a < b, "<=": lambda a, b: a <= b, ">": lambda a, b: a > b,
                 ">=": lambda a, b: a >= b, "in": lambda a, b: a in b}[name](*values)
        return truth if nots % 2 == 0 else not truth

    def value(self, tree, variables):
        value = self.plain_value(tree, variables)
        if isinstance(value, int):
            if abs(value) > 10 ** 12:
                raise Stop()
        elif value is not None and len(value) > (400 if isinstance(value, str) else 60):
            raise Stop()
        return value

    def plain_value(self, tree, variables):
        word = tree[0]
        if word in ("number", "text"):
            return tree[1]
        if word == "var":
            return variables[tree[1]]
        if word == "list":
            return [self.value(part, variables) for part in tree[1]]
        if word == "neg":
            return -self.value(tree[1], variables)
        if word == "op":
            return self.joined(tree[1], self.value(tree[2], variables), self.value(tree[3], variables))
        values = [self.value(part, variables) for part in tree[2]]
        return getattr(self, "fun_" + tree[1])(*values) if word == "fun" else self.called(tree[1], values)

    def joined(self, sign, left, right):
        if sign in ("/", "mod") and right == 0:
            raise Stop()
        return {"+": lambda: left + right, "-": lambda: left - right, "*": lambda: left * right, "&": lambda: left + right,
                "/": lambda: left // right, "mod": lambda: left - left // right * right,
                "else": lambda: right if left is None else left}[sign]()

    def called(self, name, values):
        _, _, parameters, gives, body = next(row for row in self.script.definitions if row[1] == name)
        visible, loops, self.visible, self.loops = self.visible, self.loops, [], []
        try:
            for _ in self.block(body, {other: value for (_, other), value in zip(parameters, values)}):
                raise AssertionError("a step in a function")
        except Give as given:
            return given.value
        finally:
            self.visible, self.loops = visible, loops
        return {"text": "", "number": 0, "list": []}[gives]

    def fun_size(self, value):
        return len(value)

    def fun_part(self, text, begin, end):
        return "".join(sign for at, sign in enumerate(text) if begin <= at < end)

    def fun_find(self, text, other):
        return min([at for at in range(len(text) + 1) if text[at:].startswith(other)], default=-1)

    def fun_split(self, text, other):
        return text.split(other) if other else list(text)

    def fun_join(self, texts, text):
        return text.join(texts)

    def fun_item(self, texts, at):
        return dict(enumerate(texts)).get(at, "")

    def fun_sorted(self, texts):
        return sorted(texts)

    def fun_turned(self, texts):
        return list(reversed(texts))

    def fun_times(self, text, many):
        if len(text) * many > 400:
            raise Stop()
        return text * max(many, 0)

    def fun_value(self, text):
        digits = text[1:] if text.startswith("-") else text
        right = digits.isdigit() and len(digits) <= 12 and (digits == "0" or not digits.startswith("0"))
        return int(text) if right else 0

    def fun_digits(self, number):
        return str(number)
