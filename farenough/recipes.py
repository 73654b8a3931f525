"""Recipes, and recipes that are written as trees."""

from farenough.errors import BadTree, Halted
from farenough.steps import LONGEST_TEXT, are_answers, are_keys, is_integer, is_name, is_text

STOP = ("stop",)


class Recipe:
    """The base of all recipes. It is itself the recipe that stops at once."""

    def step_at(self, arguments, answers, count):
        """The step at the place with these arguments, answers and count."""
        return STOP

    def begun(self, arguments):
        """What takes the steps of this recipe, one after the other: a Course, or what can do the same."""
        return Course(self, arguments)


class Course:
    """Takes the steps of a recipe, which it asks for each of them anew."""

    def __init__(self, recipe, arguments):
        self._recipe = recipe
        self._arguments = arguments
        self._stand_at((), 0)

    def _stand_at(self, answers, count):
        self._answers = answers
        self._count = count
        self._step = self._recipe.step_at(self._arguments, answers, count)

    @property
    def step(self):
        """The step at which it stands."""
        return self._step

    def __call__(self, answers=()):
        """Goes over the step, for a read with these answers, to the next one."""
        if self._step[0] == "stop":
            raise Halted()
        if self._step[0] == "read":
            self._stand_at((*self._answers, answers), 0)
        else:
            self._stand_at(self._answers, self._count + 1)

    def copied(self):
        """An independent one at the same step."""
        course = Course(self._recipe, self._arguments)
        course._stand_at(self._answers, self._count)
        return course


def led_to(run, answers, count):
    """Leads a run that stands at its beginning (or what takes its steps) to the place with these answers and count."""
    for row in answers:
        while run.step[0] == "write":
            run()
        run(row)
    for _ in range(count):
        run()


class TreeRecipe(Recipe):
    """A recipe that takes the steps of a tree of nodes."""

    def __init__(self, node):
        _check_tree(node)
        self._node = node

    def __eq__(self, other):
        return isinstance(other, TreeRecipe) and self._node == other._node

    @property
    def node(self):
        """The node at the top of the tree."""
        return self._node

    def step_at(self, arguments, answers, count):
        """The step at the place with these arguments, answers and count."""
        node = self._node
        # All in one function: a place may be far from the beginning, and each step is asked for from there.
        for row in answers:
            while node[0] == "write":
                node = node[3]
            _, _, cases, node = node
            for given, inner in cases:
                if given == row:
                    node = inner
                    break
        for _ in range(count):
            node = node[3]
        return _step_of(node, (arguments, *answers))


def _step_of(node, rows):
    """The step of a node; row 0 has the arguments, row k the answers to read number k."""
    if node[0] == "read":
        return "read", node[1]
    if node[0] == "stop":
        return STOP
    text = "".join([_piece(part, rows) for part in node[2]])
    if len(text) > LONGEST_TEXT:
        return STOP
    return "write", node[1], text


def _piece(part, rows):
    if isinstance(part, str):
        return part
    row, item = part
    if not 0 <= row < len(rows) or not 0 <= item < len(rows[row]):
        return ""
    return rows[row][item] or ""


def _check_tree(top):
    """Raises BadTree for the first node at fault."""
    # A stack instead of recursion: a tree may be deeper than a few hundred calls.
    waiting = [(top, (), ())]
    while waiting:
        node, path, written = waiting.pop()
        if not _is_node(node, written):
            raise BadTree(path)
        inner = _inner_nodes(node)
        if node[0] == "write":
            written = (*written, node[1])
        # The last one that is put on the stack is looked at first.
        for at in reversed(range(len(inner))):
            waiting.append((inner[at], (*path, at), written))


def _inner_nodes(node):
    """The nodes in a node, in the order of their numbers in a path."""
    if node[0] == "write":
        return [node[3]]
    if node[0] == "read":
        return [inner for _, inner in node[2]] + [node[3]]
    return []


def _is_node(value, written):
    """Whether any value is a node, whatever stands for the nodes in it, behind these outputs."""
    if not isinstance(value, tuple) or len(value) != 4:
        return value == STOP
    kind, first, second, _ = value
    if kind == "write":
        return is_name(first) and first not in written and _are_parts(second)
    return kind == "read" and are_keys(first) and _are_cases(second, len(first))


def _are_parts(value):
    return isinstance(value, tuple) and all([is_text(part) or _is_pair_of_integers(part) for part in value])


def _is_pair_of_integers(value):
    return isinstance(value, tuple) and len(value) == 2 and is_integer(value[0]) and is_integer(value[1])


def _are_cases(value, many):
    return isinstance(value, tuple) and all([_is_case(case, many) for case in value])


def _is_case(value, many):
    if not isinstance(value, tuple) or len(value) != 2:
        return False
    return are_answers(value[0]) and len(value[0]) == many
