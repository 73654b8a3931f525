"""Machines: they run the rows into which programs are compiled."""

from farenough.blocks import block_at
from farenough.compiling import Code
from farenough.errors import Halted
from farenough.operations import Fault, fits, taken
from farenough.recipes import STOP, Recipe, led_to
from farenough.stacks import CHECKED, PLAIN
from farenough.steps import are_keys, is_name

MOST_TURNS = 300
# A machine with these rows stands at a stop.
_NO_ROWS = (("stop",),)


def compiled(program):
    """The tuple of rows that does what a program does."""
    return program.code().rows


class Machine:
    """Runs rows from one step to the next."""

    def __init__(self, rows, arguments):
        # Whether all values are known to be within the bounds of expressions; then they are not looked at when loaded.
        self._is_bounded = isinstance(rows, Code) or all([fits(row[1]) for row in rows if row[0] == "push"])
        self._rows = rows.rows if isinstance(rows, Code) else tuple(rows)
        # By the rows with which they begin, how often rows were done one by one from there (no more than twice), and
        # the blocks of those that were done more than once.
        self._tries = {}
        self._blocks = {}
        self._row = 0
        self._stack = []
        self._turns = 0
        # The turn counter where the last turn of the first frame began.
        self._turns_before = 0
        self._written = []
        # For each frame its variables, and the row to which it returns.
        self._frames = [({at: argument for at, argument in enumerate(arguments)}, 0)]
        self._look_at(arguments)
        self._run()

    @property
    def step(self):
        """The step at which the machine stands."""
        return self._step

    def __call__(self, answers=()):
        """Goes over the step, for a read with these answers, to the next one."""
        if self._step[0] == "stop":
            raise Halted()
        if self._step[0] == "read":
            self._look_at(answers)
            self._stack.extend(answers[::-1])
        else:
            self._written.append(self._step[1])
        self._turns = 0
        self._run()

    def copied(self):
        """An independent machine in the same state."""
        machine = Machine(_NO_ROWS, ())
        machine._is_bounded = self._is_bounded
        machine._rows = self._rows
        machine._tries = {at: self._tries[at] for at in self._tries}
        machine._blocks = {at: self._blocks[at] for at in self._blocks}
        machine._row = self._row
        machine._stack = list(self._stack)
        machine._turns = self._turns
        machine._turns_before = self._turns_before
        machine._written = list(self._written)
        machine._frames = [({at: variables[at] for at in variables}, back) for variables, back in self._frames]
        machine._step = self._step
        return machine

    def row_of_step(self):
        """The number of the row in which the step is taken."""
        return self._row - 1

    def turns_before(self):
        """The turn counter where the last turn of the first frame began."""
        return self._turns_before

    def written(self):
        """A new list of the outputs that were written so far."""
        return list(self._written)

    def value_of(self, variable):
        """The value of a variable of the first frame."""
        return self._frames[0][0][variable]

    def go_on_from(self, code, row, turns, written, variables):
        """Goes on from a row of this code as if the machine had come there with this state."""
        self._is_bounded = True
        self._rows = code.rows
        self._tries = {}
        self._row = row
        self._stack = []
        self._turns = turns
        self._written = list(written)
        self._frames = [({at: variables[at] for at in variables}, 0)]
        self._look_at(list(variables.values()))
        self._run()

    def _look_at(self, values):
        """Looks at values that come from outside."""
        if not all([fits(value) for value in values]):
            self._is_bounded = False

    def _run(self):
        """Does rows up to the next step or fault."""
        self._step = ()
        try:
            while not self._step:
                block = self._blocks.get(self._row)
                if block is None or not self._is_bounded:
                    self._do_rows()
                else:
                    self._do_block(block)
        except Fault:
            self._step = STOP

    def _do_rows(self):
        """Does rows one by one, up to one that tells which comes next, or makes a block of them."""
        at = self._row
        tries = self._tries.get(at, 0)
        if tries < 2:
            self._tries[at] = tries + 1
        if tries == 1 and self._is_bounded:
            block = block_at(self._rows, at)
            if block is not None:
                self._blocks[at] = block
                return
        stack, variables = self._stack, self._frames[-1][0]
        bounded = self._is_bounded
        while True:
            row = self._rows[at]
            at += 1
            word = row[0]
            action = PLAIN.get(word) if bounded else CHECKED.get(word)
            if action is not None:
                action(stack, variables, row[1])
            elif word == "turn":
                self._turn(1)
            else:
                break
        self._row = at
        self._go(row)

    def _do_block(self, block):
        variables = self._frames[-1][0]
        if block.turns:
            self._turn(block.turns)
        for variable, function in block.stores:
            variables[variable] = function(variables)
        for function in block.pushes:
            self._stack.append(function(variables))
        test = block.test
        self._row = block.following if test is None or test(variables) else block.otherwise

    def _go(self, row):
        """Does a row that tells which one comes next."""
        word = row[0]
        if word == "jump":
            self._row = row[1]
        elif word == "unless":
            if not self._stack.pop():
                self._row = row[1]
        elif word == "call":
            values = taken(self._stack, row[2])
            self._frames.append(({at: value for at, value in enumerate(values)}, self._row))
            self._row = row[1]
        elif word == "return":
            _, self._row = self._frames.pop()
        else:
            self._stand(row)

    def _turn(self, many):
        """Begins so many turns."""
        if len(self._frames) == 1:
            self._turns_before = self._turns + many - 1
        self._turns += many
        if self._turns > MOST_TURNS:
            raise Fault()

    def _stand(self, row):
        """Stops at a step; raises Fault if it is none that may be taken."""
        if row[0] == "stop":
            self._step = STOP
        elif row[0] == "write":
            output, text = taken(self._stack, 2)
            if not is_name(output) or output in self._written:
                raise Fault()
            self._step = ("write", output, text)
        else:
            names = taken(self._stack, 2 * row[1])
            keys = tuple([(names[at], names[at + 1]) for at in range(0, len(names), 2)])
            if not are_keys(keys):
                raise Fault()
            self._step = ("read", keys)


def machine_within(code, row, turns, written, variables):
    """A machine that went on from a row of this code, with this state."""
    machine = Machine(_NO_ROWS, ())
    machine.go_on_from(code, row, turns, written, variables)
    return machine


class ProgramRecipe(Recipe):
    """A recipe that takes the steps of a program."""

    def __init__(self, program):
        self._program = program

    def __eq__(self, other):
        return isinstance(other, ProgramRecipe) and self._program == other._program

    @property
    def program(self):
        """The program."""
        return self._program

    def begun(self, arguments):
        """A machine that stands at the first step of a run with these arguments."""
        many = len(self._program.arguments)
        given = arguments[:many]
        return Machine(self._program.code(), given + ("",) * (many - len(given)))

    def step_at(self, arguments, answers, count):
        """The step at the place with these arguments, answers and count."""
        machine = self.begun(arguments)
        led_to(machine, answers, count)
        return machine.step
