"""Short ways to write trees, places, steps and values, for all tests."""

STOP = ("stop",)


def write(output, parts=(), node=STOP):
    return ("write", output, parts, node)


def read(keys, cases=(), node=STOP):
    return ("read", keys, cases, node)


def deep(levels, inner=()):
    for _ in range(levels):
        inner = (inner,)
    return inner


def at(recipe, *answers, count=0, arguments=()):
    return (recipe, arguments, answers, count)


def put(output, text="1"):
    return ("write", output, text)


def reads(*keys):
    return ("read", keys)
