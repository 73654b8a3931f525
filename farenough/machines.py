"""Machines: they run the rows into which programs are compiled."""

from farenough.compiling import Compiler
from farenough.errors import Halted
from farenough.operations import Fault, operands_of, result_of, taken, truth_of, within_bounds
from farenough.recipes import STOP, Recipe, led_to
from farenough.steps import are_keys, is_name

MOST_TURNS = 300
# A machine with these rows stands at a stop.
_NO_ROWS = (("stop",),)


def compiled(program):
    """The tuple of rows that does what a program does."""
    return Compiler(program.parsed()).rows()


class Machine:
    """Runs rows from one step to the next."""

    def __init__(self, rows, arguments):
        self._rows = tuple(rows)
        self._row = 0
        self._stack = []
        self._turns = 0
        # The turn counter where the last turn of the first frame began.
        self._turns_before = 0
        self._written = []
        # For each frame its variables, and the row to which it returns.
        self._frames = [({at: argument for at, argument in enumerate(arguments)}, 0)]
        self._run()

    @property
    def step(self):
        """The step at which the machine stands."""
        return self._step

    def __call__(self, answers=()):
        """Goes over the step, for a read with these answers, to the next one."""
        if self._step[0] == "stop":
            raise Halted()
        if self._step[0] == "read":
            self._stack.extend(answers[::-1])
        else:
            self._written.append(self._step[1])
        self._turns = 0
        self._run()

    def copied(self):
        """An independent machine in the same state."""
        machine = Machine(_NO_ROWS, ())
        machine._rows = self._rows
        machine._row = self._row
        machine._stack = list(self._stack)
        machine._turns = self._turns
        machine._turns_before = self._turns_before
        machine._written = list(self._written)
        machine._frames = [({at: variables[at] for at in variables}, back) for variables, back in self._frames]
        machine._step = self._step
        return machine

    def row_of_step(self):
        """The number of the row in which the step is taken."""
        return self._row - 1

    def turns_before(self):
        """The turn counter where the last turn of the first frame began."""
        return self._turns_before

    def written(self):
        """A new list of the outputs that were written so far."""
        return list(self._written)

    def value_of(self, variable):
        """The value of a variable of the first frame."""
        return self._frames[0][0][variable]

    def go_on_from(self, row, turns, written, variables):
        """Goes on from a row as if the machine had come there with this state."""
        self._row = row
        self._stack = []
        self._turns = turns
        self._written = list(written)
        self._frames = [({at: variables[at] for at in variables}, 0)]
        self._run()

    def _run(self):
        """Does rows up to the next step or fault."""
        self._step = ()
        try:
            while not self._step:
                row = self._rows[self._row]
                self._row += 1
                self._do(row)
        except Fault:
            self._step = STOP

    def _do(self, row):
        word = row[0]
        if word == "push":
            self._stack.append(row[1])
        elif word == "load":
            self._stack.append(within_bounds(self._frames[-1][0][row[1]]))
        elif word == "store":
            self._frames[-1][0][row[1]] = self._stack.pop()
        elif word == "op":
            operands = taken(self._stack, operands_of(row[1]))
            self._stack.append(result_of(row[1], operands))
        elif word == "list":
            self._stack.append(within_bounds(tuple(taken(self._stack, row[1]))))
        elif word == "test":
            operands = taken(self._stack, operands_of(row[1]))
            self._stack.append(truth_of(row[1], operands))
        elif word in ("read", "write", "stop"):
            self._stand(row)
        else:
            self._go(row)

    def _go(self, row):
        """Does a row that tells which one comes next."""
        word = row[0]
        if word == "jump":
            self._row = row[1]
        elif word == "unless":
            if not self._stack.pop():
                self._row = row[1]
        elif word == "turn":
            self._turn()
        elif word == "call":
            values = taken(self._stack, row[2])
            self._frames.append(({at: value for at, value in enumerate(values)}, self._row))
            self._row = row[1]
        else:
            _, self._row = self._frames.pop()

    def _turn(self):
        if len(self._frames) == 1:
            self._turns_before = self._turns
        self._turns += 1
        if self._turns > MOST_TURNS:
            raise Fault()

    def _stand(self, row):
        """Stops at a step; raises Fault if it is none that may be taken."""
        if row[0] == "stop":
            self._step = STOP
        elif row[0] == "write":
            output, text = taken(self._stack, 2)
            if not is_name(output) or output in self._written:
                raise Fault()
            self._step = ("write", output, text)
        else:
            names = taken(self._stack, 2 * row[1])
            keys = tuple([(names[at], names[at + 1]) for at in range(0, len(names), 2)])
            if not are_keys(keys):
                raise Fault()
            self._step = ("read", keys)


class ProgramRecipe(Recipe):
    """A recipe that takes the steps of a program."""

    def __init__(self, program):
        self._program = program
        self._rows = compiled(program)

    def __eq__(self, other):
        return isinstance(other, ProgramRecipe) and self._program == other._program

    @property
    def program(self):
        """The program."""
        return self._program

    def begun(self, arguments):
        """A machine that stands at the first step of a run with these arguments."""
        many = len(self._program.arguments)
        given = arguments[:many]
        return Machine(self._rows, given + ("",) * (many - len(given)))

    def step_at(self, arguments, answers, count):
        """The step at the place with these arguments, answers and count."""
        machine = self.begun(arguments)
        led_to(machine, answers, count)
        return machine.step
