"""The rows that do what the lines of a program do."""

from farenough.outlines import BLOCKS, LOOPS
from farenough.scopes import Scope

_NO_STATEMENTS = ("recipe", "define", "else", "end")
_EMPTY = {"text": "", "number": 0, "list": ()}


class Spot:
    """Where a step of a program stands."""

    def __init__(self, number, first_row, loops, variables):
        self.number = number
        # The row with which its statement begins.
        self.first_row = first_row
        # For each loop around it, from the outside: the number of its line, and the variables with its round and bound.
        self.loops = loops
        # For each variable that is visible, its name and its number in the rows.
        self.variables = variables


class Code:
    """What a program is compiled into. All values in its rows are within the bounds of expressions."""

    def __init__(self, rows, spots):
        self.rows = rows
        # Where each step stands, behind the number of the row in which it is taken.
        self.spots = spots

    def spot_in(self, row):
        """Where the step stands that is taken in the row of this number."""
        return [spot for other, spot in self.spots if other == row][0]

    def spot_of(self, number):
        """Where the step stands that is taken in the line of this number."""
        return [spot for _, spot in self.spots if spot.number == number][0]


class Block:
    """A block of a program whose end was not reached yet."""

    def __init__(self, line, number, many):
        self.line = line
        self.number = number
        # How many variables were in use where it began.
        self.many = many
        # The row with which each round of a loop begins, and the variables with its round and its bound.
        self.start = 0
        self.index = 0
        self.bound = 0
        # The rows that jump to the end of the block, or to its `else`.
        self.exits = []


class Compiler:
    """Puts rows together, line by line."""

    def __init__(self, lines):
        self._rows = []
        self._spots = []
        # The value of each variable is its number in the rows.
        self._scope = Scope()
        self._many = 0
        self._blocks = []
        # The rows with which the functions begin.
        self._starts = {}
        for number, line in enumerate(lines):
            self._add_line(line, number)
        self._add("stop")

    def code(self):
        """All rows, and where the steps stand."""
        return Code(tuple(self._rows), tuple(self._spots))

    def _add(self, *row):
        """Adds a row; its number."""
        self._rows.append(row)
        return len(self._rows) - 1

    def _lead_here(self, jumps):
        """Lets the rows of these numbers jump to the row that comes next."""
        for row in jumps:
            self._rows[row] = (self._rows[row][0], len(self._rows))

    def _variable(self):
        """The number of a new variable."""
        self._many += 1
        return self._many - 1

    def _add_line(self, line, number):
        begin = len(self._rows)
        if line.word not in _NO_STATEMENTS:
            self._add("turn")
        if line.word in BLOCKS:
            introduced = self._begin_block(line, number)
        elif line.word in ("else", "end"):
            introduced = self._end_part(line.word)
        elif line.word in ("read", "write"):
            introduced = self._add_step(line, number, begin)
        else:
            introduced = self._add_plain_line(line)
        self._scope.goes_over(line.word, introduced)

    def _add_plain_line(self, line):
        """Adds a line that is no part of a block and takes no step; what it introduces."""
        for code in line.codes:
            self._add_code(code)
        introduced = [(name, self._variable()) for name in line.introduced]
        if line.word == "let":
            self._add("store", introduced[0][1])
        elif line.word == "set":
            self._add("store", self._scope.value_of(line.named("set")[0]))
        elif line.word == "give":
            self._add("return")
        elif line.word == "stop":
            self._add("stop")
        elif line.word == "leave":
            self._loop().exits.append(self._add("jump", 0))
        elif line.word == "again":
            self._add("jump", self._loop().start)
        return introduced

    def _loop(self):
        return [block for block in self._blocks if block.line.word in LOOPS][-1]

    def _add_step(self, line, number, begin):
        for code in line.codes:
            self._add_code(code)
        loops = [(block.number, block.index, block.bound) for block in self._blocks if block.line.word in LOOPS]
        spot = Spot(number, begin, loops, self._scope.visible())
        if line.word == "write":
            self._spots.append((self._add("write"), spot))
            return []
        introduced = [(name, self._variable()) for name in line.introduced]
        self._spots.append((self._add("read", len(introduced)), spot))
        for _, variable in introduced:
            self._add("store", variable)
        return introduced

    def _begin_block(self, line, number):
        block = Block(line, number, self._many)
        introduced = []
        if line.word == "define":
            introduced = self._begin_definition(line)
        elif line.word == "if":
            block.exits = self._add_condition(line.tests)
        else:
            introduced = self._begin_loop(line, block)
        self._blocks.append(block)
        return introduced

    def _begin_definition(self, line):
        if not self._rows:
            # Where the statements begin is known when the last definition ends.
            self._add("jump", 0)
        self._starts[line.named("function")[0]] = len(self._rows)
        self._many = 0
        return [(name, self._variable()) for name in line.introduced]

    def _begin_loop(self, line, block):
        self._add_code(line.codes[0])
        block.bound, block.index = self._variable(), self._variable()
        self._add("store", block.bound)
        self._add("push", -1)
        self._add("store", block.index)
        block.start = self._add("load", block.index)
        self._add("push", 1)
        self._add("op", "+")
        self._add("store", block.index)
        self._add("load", block.index)
        self._add("load", block.bound)
        if line.word == "for":
            self._add("op", "size")
        self._add("test", "<")
        block.exits.append(self._add("unless", 0))
        self._add("turn")
        return self._loop_variables(line, block)

    def _loop_variables(self, line, block):
        if line.word == "repeat":
            return [(name, block.index) for name in line.introduced]
        self._add("load", block.bound)
        self._add("load", block.index)
        self._add("op", "item")
        item = self._variable()
        self._add("store", item)
        return [(line.introduced[0], item)]

    def _end_part(self, word):
        """Adds what comes where the first part of a block ends, or the block; it introduces nothing."""
        block = self._blocks.pop()
        if word == "else":
            skipped = self._add("jump", 0)
            self._lead_here(block.exits)
            block.exits = [skipped]
            self._blocks.append(block)
            return []
        if block.line.word in LOOPS:
            self._add("jump", block.start)
        elif block.line.word == "define":
            self._add("push", _EMPTY[block.line.kinds[-1]])
            self._add("return")
            self._lead_here([0])
        self._lead_here(block.exits)
        self._many = block.many
        return []

    def _add_condition(self, tests):
        """Adds the rows of a condition; the numbers of those that jump if it does not hold."""
        holding, failing = [], []
        for at, group in enumerate(tests):
            # The tests of a group are looked at where the group ahead of it fails.
            self._lead_here(failing)
            failing = []
            for test in group:
                self._add_test(test)
                failing.append(self._add("unless", 0))
            if at < len(tests) - 1:
                holding.append(self._add("jump", 0))
        self._lead_here(holding)
        return failing

    def _add_test(self, test):
        nots, name, codes, _ = test
        for code in codes:
            self._add_code(code)
        self._add("test", name)
        for _ in range(nots):
            self._add("test", "not")

    def _add_code(self, code):
        """Adds the rows of an expression."""
        for word, value, many in code:
            if word == "op":
                self._rows.append((word, value))
            elif word == "name":
                self._rows.append(("load", self._scope.value_of(value)))
            elif word == "list":
                self._rows.append((word, many))
            elif word == "call":
                self._rows.append((word, self._starts[value], many))
            else:
                self._rows.append(("push", value))
