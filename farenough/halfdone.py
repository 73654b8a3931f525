"""Runs of programs, which can be put into writing half done."""

from farenough.machines import ProgramRecipe, machine_within
from farenough.recipes import Recipe
from farenough.runs import Run
from farenough.wording import WordReader, line_of, word_of


class ProgramRun(Run):
    """A run of a program under a name."""

    def __init__(self, name, program, arguments=()):
        # Without a program it stops at once; then its state is still to be set.
        super().__init__(name, Recipe() if program is None else ProgramRecipe(program), arguments)
        self._program = program

    def copied(self):
        """An independent run at the same place, with the same trail."""
        run = super().copied()
        run._program = self._program
        return run

    def _new_run(self):
        return ProgramRun("", None)

    def saved(self):
        """A text from which the run can be restored."""
        name, arguments, answers, count = self._place
        lines = [line_of("run", [name, *arguments])]
        for row in answers:
            lines.append(line_of("answers", row))
        lines.append(" ".join(["written", *self._course.written()]))
        lines.append(f"count {count}")
        if self._step[0] == "stop":
            lines.append("at end")
        else:
            lines.extend(self._lines_of_statement())
        return "\n".join(lines)

    def _lines_of_statement(self):
        spot = self._program.code().spot_in(self._course.row_of_step())
        lines = [f"at {spot.number} {self._course.turns_before()}"]
        for number, index, bound in spot.loops:
            lines.append(line_of("loop", [number, self._course.value_of(index), self._course.value_of(bound)]))
        for name, variable in spot.variables:
            lines.append(f"let {name} {word_of(self._course.value_of(variable))}")
        return lines

    @classmethod
    def restored(cls, program, saved):
        """A run that goes on as the saved one would."""
        run = cls("", None)
        run._restore(program, _told_by(saved))
        return run

    def _restore(self, program, told):
        """Goes to where a saved run of the program stood."""
        code = program.code()
        self._program = program
        self._recipe = ProgramRecipe(program)
        name, *arguments = told["run"][0]
        self._place = (name, tuple(arguments), tuple([tuple(row) for row in told["answers"]]), told["count"][0][0])
        row, turns, variables = len(code.rows) - 1, 0, {}
        if told["at"][0] != ["end"]:
            number, turns = map(int, told["at"][0])
            spot = code.spot_of(number)
            row = spot.first_row
            for (_, index, bound), (_, index_value, bound_value) in zip(spot.loops, told["loop"]):
                variables[index] = index_value
                variables[bound] = bound_value
            for (_, variable), value in zip(spot.variables, told["let"]):
                variables[variable] = value
        self._course = machine_within(code, row, turns, told["written"][0], variables)
        self._step = self._course.step


def _told_by(saved):
    """What the lines of a saved run tell: by their first words, for each line a list of what stands behind it."""
    told = {word: [] for word in ("run", "answers", "written", "count", "at", "loop", "let")}
    for line in saved.split("\n"):
        reader = WordReader(line)
        first = reader.next_word()
        if first in ("written", "at"):
            told[first].append(reader.all_words())
        elif first == "let":
            # The name goes without saying: the variables stand in the order of the program.
            reader.next_word()
            told[first].append(reader.next_value())
        else:
            told[first].append(reader.all_values())
    return told
