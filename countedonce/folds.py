"""Folds as states of bags of rows, which are put together in any order."""

from countedonce.values import wrapped


def no_state(kind):
    """The state of no rows."""
    if kind in ("count", "sum"):
        return 0
    if kind == "mean":
        return (0, 0)
    return ()


def one_state(kind, value):
    """The state of one row, in which the fold's expression has a value."""
    if kind == "count":
        return 1
    if kind == "sum":
        return value
    if kind == "mean":
        return (value, 1)
    return (value,)


def put_together(kind, one, other):
    """The state of two bags of rows together, out of theirs."""
    if kind in ("count", "sum"):
        return wrapped(one + other)
    if kind == "mean":
        return (wrapped(one[0] + other[0]), one[1] + other[1])
    values = sorted(set(one + other))
    if kind == "least":
        return tuple(values[:1])
    if kind == "greatest":
        return tuple(values[-1:])
    return tuple(values)


def state_told(kind, state):
    """What a fold tells of the state of one row at least."""
    if kind in ("count", "sum"):
        return state
    if kind == "mean":
        return state[0] // state[1]
    if kind == "unlike":
        return len(state)
    return state[0]
