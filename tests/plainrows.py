"""The table of rows of stage 8, carried out row by row, to run compiled rows beside the program's own machine."""

from scripts import Doing, Stop


class PlainMachine:
    """Runs rows to the next step each time."""

    def __init__(self, rows, arguments):
        self.rows, self.at, self.stack, self.turns, self.written = rows, 0, [], 0, []
        self.frames = [[dict(enumerate(arguments)), None]]
        self.doing = Doing.__new__(Doing)
        self.step = self.next()

    def next(self):
        try:
            while True:
                word, *rest = self.rows[self.at]
                self.at += 1
                step = getattr(self, "row_" + word)(*rest)
                if step is not None:
                    return step
        except Stop:
            return ("stop",)

    def go_on(self, answers):
        if self.step[0] == "read":
            self.stack += list(answers)[::-1]
        else:
            self.written.append(self.step[1])
        self.turns = 0
        self.step = self.next()

    def took(self, many):
        values = [self.stack.pop() for _ in range(many)]
        return values[::-1]

    def fits(self, value):
        if isinstance(value, int) and abs(value) > 10 ** 12 or isinstance(value, str) and len(value) > 400:
            raise Stop()
        if isinstance(value, (list, tuple)):
            if len(value) > 60:
                raise Stop()
            return tuple(value)
        return value

    def row_push(self, value):
        self.stack.append(value)

    def row_load(self, at):
        self.stack.append(self.frames[-1][0][at])

    def row_store(self, at):
        self.frames[-1][0][at] = self.stack.pop()

    def row_op(self, name):
        if name in ("+", "-", "*", "/", "mod", "&", "else"):
            left, right = self.took(2)
            self.stack.append(self.fits(self.doing.joined(name, left, right)))
        elif name == "neg":
            self.stack.append(self.fits(-self.stack.pop()))
        else:
            function = getattr(self.doing, "fun_" + name)
            self.stack.append(self.fits(function(*self.took(function.__code__.co_argcount - 1))))

    def row_list(self, many):
        self.stack.append(self.fits(tuple(self.took(many))))

    def row_test(self, name):
        if name in ("known", "not"):
            value = self.stack.pop()
            self.stack.append(value is not None if name == "known" else not value)
        else:
            left, right = self.took(2)
            self.stack.append({"=": left == right, "!=": left != right, "in": isinstance(right, (str, tuple)) and left in right}.get(
                name) if name in ("=", "!=", "in") else {"<": left < right, "<=": left <= right, ">": left > right,
                                                         ">=": left >= right}[name])

    def row_jump(self, at):
        self.at = at

    def row_unless(self, at):
        truth = self.stack.pop()
        assert truth is True or truth is False
        if not truth:
            self.at = at

    def row_turn(self):
        self.turns += 1
        if self.turns > 300:
            raise Stop()

    def row_call(self, at, many):
        self.frames.append([dict(enumerate(self.took(many))), self.at])
        self.at = at

    def row_return(self):
        self.at = self.frames.pop()[1]

    def row_read(self, many):
        names = self.took(2 * many)
        keys = tuple(zip(names[::2], names[1::2]))
        if len(set(keys)) < many or not all(self.doing.is_name(name) for name in names):
            raise Stop()
        return ("read", keys)

    def row_write(self):
        output, text = self.took(2)
        if not self.doing.is_name(output) or output in self.written:
            raise Stop()
        return ("write", output, text)

    def row_stop(self):
        return ("stop",)
