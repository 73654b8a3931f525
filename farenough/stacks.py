"""Stacks: what plain rows do to a stack and to the variables of the last frame."""

from farenough.operations import ACTIONS, taken, within_bounds


def _push(stack, variables, value):
    stack.append(value)


def _load(stack, variables, variable):
    stack.append(variables[variable])


def _load_checked(stack, variables, variable):
    stack.append(within_bounds(variables[variable]))


def _store(stack, variables, variable):
    variables[variable] = stack.pop()


def _operate(stack, variables, name):
    many, action = ACTIONS[name]
    if many == 2:
        right = stack.pop()
        stack[-1] = action(stack[-1], right)
    elif many == 1:
        stack[-1] = action(stack[-1])
    else:
        operands = taken(stack, many)
        stack.append(action(*operands))


def _gather(stack, variables, many):
    stack.append(within_bounds(tuple(taken(stack, many))))


# By the first words of the rows. These are for machines in which all values are within the bounds of expressions.
PLAIN = {"push": _push, "load": _load, "store": _store, "op": _operate, "test": _operate, "list": _gather}
# These are for all machines.
CHECKED = {"push": _push, "load": _load_checked, "store": _store, "op": _operate, "test": _operate, "list": _gather}
