"""Short ways to write trees and values, for all tests."""

STOP = ("stop",)


def write(output, parts=(), node=STOP):
    return ("write", output, parts, node)


def read(keys, cases=(), node=STOP):
    return ("read", keys, cases, node)


def deep(levels, inner=()):
    for _ in range(levels):
        inner = (inner,)
    return inner
