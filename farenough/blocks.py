"""Blocks: rows that follow one another, put together to be done at once. Rows that are done often are done so."""

from farenough.operations import ACTIONS, taken, within_bounds


class RowBlock:
    """What the rows from some row on do, up to a jump, or to a row that has to be done by itself."""

    def __init__(self, builder):
        self.turns = builder.turns
        # Pairs of a variable and what gives its value, then what gives the values that are left on the stack.
        self.stores = builder.stores
        self.pushes = builder.pushes
        # What gives a truth, or None; the row that comes next, and the one that comes if the truth is False.
        self.test = builder.test
        self.following = builder.following
        self.otherwise = builder.otherwise


def block_at(rows, at):
    """The block that begins with the row of this number, or None if this row has to be done by itself."""
    builder = BlockBuilder()
    end = at
    while builder.takes(rows[end]):
        end += 1
    builder.ends_with(rows[end], end)
    return RowBlock(builder) if builder.following != at else None


class BlockBuilder:
    """Goes over rows. Of what they put on the stack it keeps how it is found: parts (`push` and a value, `load` and a
    variable, or `call` and a function of the variables)."""

    def __init__(self):
        self._stack = []
        self.turns = 0
        self.stores = []
        self.pushes = []
        self.test = None
        self.following = 0
        self.otherwise = 0

    def takes(self, row):
        """Goes over a row, if it may be a part of the block; whether it may."""
        word = row[0]
        if word in ("push", "load"):
            self._stack.append(row)
        elif word == "turn":
            self.turns += 1
        elif word == "store":
            # What else is on the stack was to be found ahead of this.
            if len(self._stack) != 1:
                return False
            self.stores.append((row[1], _function_of(self._stack.pop())))
        elif word in ("op", "test", "list"):
            return self._takes_operands(word, row[1])
        else:
            return False
        return True

    def _takes_operands(self, word, told):
        many, action = (told, None) if word == "list" else ACTIONS[told]
        if len(self._stack) < many:
            return False
        operands = taken(self._stack, many)
        self._stack.append(("call", _list_of(operands) if action is None else _result_of(action, operands)))
        return True

    def ends_with(self, row, at):
        """Ends the block at a row that is not a part of it, or that is its jump."""
        self.following = at
        if row[0] == "jump":
            self.following = row[1]
        elif row[0] == "unless" and self._stack:
            self.test = _function_of(self._stack.pop())
            self.following = at + 1
            self.otherwise = row[1]
        self.pushes = [_function_of(part) for part in self._stack]


def _function_of(part):
    """A function of the variables for a part."""
    word, told = part
    if word == "push":
        return lambda variables: told
    return told if word == "call" else lambda variables: variables[told]


def _list_of(operands):
    functions = [_function_of(operand) for operand in operands]
    return lambda variables: within_bounds(tuple([function(variables) for function in functions]))


def _result_of(action, operands):
    """A function of the variables that does an action with operands. Parts that occur often are looked up at once."""
    if len(operands) == 1:
        return _result_of_one(action, operands[0])
    if len(operands) == 2:
        return _result_of_two(action, operands[0], operands[1])
    first, second, third = [_function_of(operand) for operand in operands]
    return lambda variables: action(first(variables), second(variables), third(variables))


def _result_of_one(action, operand):
    word, told = operand
    if word == "load":
        return lambda variables: action(variables[told])
    function = _function_of(operand)
    return lambda variables: action(function(variables))


def _result_of_two(action, left, right):
    words = (left[0], right[0])
    one, two = left[1], right[1]
    if words == ("load", "push"):
        return lambda variables: action(variables[one], two)
    if words == ("load", "load"):
        return lambda variables: action(variables[one], variables[two])
    if words == ("call", "push"):
        return lambda variables: action(one(variables), two)
    first, second = _function_of(left), _function_of(right)
    return lambda variables: action(first(variables), second(variables))
