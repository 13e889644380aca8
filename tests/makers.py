"""Jobs, expressions and rows for tests, made out of a seeded random source."""

import random

NAMES = ("a", "b", "c", "d", "e", "f")
TEXTS = ("", "p", "q", "pq", "P # (")
INTS = (0, 0, 1, 1, 2, 3, 7, -1, -2, -5, 2 ** 63 - 1, -2 ** 63)
ARITHMETIC = ("+", "-", "*", "/", "mod", "and", "or")
COMPARISONS = ("=", "!=", "<", "<=", ">", ">=")


def source(seed):
    return random.Random(seed)


def names_of(columns, kind):
    return [name for name, its in columns if its == kind]


def leaf(rng, columns, kind):
    names = names_of(columns, kind)
    if names and rng.random() < 0.7:
        return ("column", rng.choice(names))
    if kind == "int":
        return ("number", rng.choice((0, 1, 2, 3, 10, 10 ** 18 - 1)))
    return ("quoted", rng.choice(TEXTS))


def expression(rng, columns, kind="int", deep=3):
    if kind == "text" or deep <= 1 or rng.random() < 0.2:
        return leaf(rng, columns, kind)
    what = rng.choice(("two", "two", "two", "compare", "compare", "not", "minus", "length"))
    if what == "two":
        return ("two", rng.choice(ARITHMETIC), expression(rng, columns, "int", deep - 1),
                expression(rng, columns, "int", deep - 1))
    if what == "compare":
        inner = rng.choice(("int", "text"))
        return ("two", rng.choice(COMPARISONS), expression(rng, columns, inner, deep - 1),
                expression(rng, columns, inner, deep - 1))
    if what == "length":
        return ("length", leaf(rng, columns, "text"))
    return (what, expression(rng, columns, "int", deep - 1))


def map_step(rng, name, below, columns):
    names = rng.sample(NAMES, rng.randint(1, 4))
    details = []
    made = []
    for new in names:
        kind = rng.choice(("int", "text"))
        told = expression(rng, columns, kind, 3)
        if new in dict(columns) and rng.random() < 0.6:
            told, kind = ("column", new), dict(columns)[new]
        details.append((told, new))
        made.append((new, kind))
    return (name, "map", (below,), tuple(details)), tuple(made)


def fold_step(rng, name, below, columns):
    keys = rng.sample([column for column, _ in columns], rng.randint(0, min(2, len(columns))))
    made = [(key, dict(columns)[key]) for key in keys]
    folds = []
    for new in rng.sample([word for word in NAMES if word not in keys], rng.randint(1, 3)):
        kind = rng.choice(("count", "sum", "least", "greatest", "mean", "unlike"))
        told = None
        tells = "int"
        if kind in ("sum", "mean"):
            told = expression(rng, columns, "int", 2)
        elif kind != "count":
            inner = rng.choice(("int", "text"))
            told = expression(rng, columns, inner, 2)
            if kind != "unlike":
                tells = inner
        folds.append((kind, told, new))
        made.append((new, tells))
    return (name, "fold", (below,), (tuple(keys), tuple(folds))), tuple(made)


def join_step(rng, name, told):
    one, other = rng.choice(list(told)), rng.choice(list(told))
    alike = [pair for pair in told[one] if pair in told[other]]
    if not alike:
        return None
    keys = [column for column, _ in rng.sample(alike, rng.randint(1, len(alike)))]
    columns = [(key, dict(told[one])[key]) for key in keys]
    for side in (one, other):
        columns.extend([pair for pair in told[side] if pair[0] not in keys])
    if len(dict(columns)) < len(columns):
        return None
    return (name, "join", (one, other), tuple(keys)), tuple(columns)


def union_step(rng, name, told):
    one = rng.choice(list(told))
    other = rng.choice([word for word in told if told[word] == told[one]])
    return (name, "union", (one, other), ()), told[one]


def sort_step(rng, name, below, columns):
    names = rng.sample([column for column, _ in columns], rng.randint(1, len(columns)))
    order = tuple([(column, rng.choice(("up", "down"))) for column in names])
    return (name, "sort", (below,), (order, rng.choice((1, 2, 3, 5, 100)))), columns


def step(rng, name, told):
    what = rng.choice(("filter", "filter", "filter", "map", "map", "fold", "join", "join", "union", "unlike", "sort"))
    below = rng.choice(list(told)[-3:])
    columns = told[below]
    if what == "filter":
        return (name, "filter", (below,), expression(rng, columns)), columns
    if what == "map":
        return map_step(rng, name, below, columns)
    if what == "fold":
        return fold_step(rng, name, below, columns)
    if what == "join":
        return join_step(rng, name, told)
    if what == "union":
        return union_step(rng, name, told)
    if what == "unlike":
        return (name, "unlike", (below,), ()), columns
    return sort_step(rng, name, below, columns)


def job(rng, most=9):
    """A job that is taken, and the dict of its steps' columns."""
    steps = []
    told = {}
    for name in ("x", "y")[:rng.randint(1, 2)]:
        columns = tuple([(column, rng.choice(("int", "text")))
                         for column in rng.sample(NAMES[:4], rng.randint(1, 3))])
        steps.append((name, "read", (), columns))
        told[name] = columns
    for number in range(rng.randint(1, most)):
        made = step(rng, "t" + str(number), told)
        if made is not None:
            steps.append(made[0])
            told[made[0][0]] = made[1]
    answer = steps[-1][0] if rng.random() < 0.8 else rng.choice(list(told))
    return (tuple(steps), answer), told


def rows(rng, columns, most=6):
    values = {"int": INTS, "text": TEXTS}
    return [tuple([rng.choice(values[kind]) for _, kind in columns]) for _ in range(rng.randint(0, most))]


def data(rng, made):
    return {name: rows(rng, columns) for name, what, _, columns in made[0] if what == "read"}


def keys_of(told, columns, step):
    """The keys of a fold's rows; told are the rows of all steps, as dicts."""
    return sorted({tuple([row[key] for key in step[3][0]]) for row in told[step[2][0]]})


def hows(rng, made, told, columns):
    """How some joins and folds of a job may be worked."""
    found = {}
    for step in made[0]:
        if step[1] == "join" and rng.random() < 0.5:
            found[step[0]] = ()
        if step[1] == "fold" and rng.random() < 0.6:
            keys = keys_of(told, columns, step)
            hot = rng.sample(keys, min(len(keys), rng.randint(0, 3)))
            found[step[0]] = tuple(rng.sample(hot + [(1, "no", 3, "key"), ("p", 5)], len(hot) + 2))
    return found


def choice(rng, made, told, columns):
    """What else a plan is made of: cuts, pieces, is_ahead, hows."""
    cuts = {name: rng.choice((1, 2, 3, 9)) for name in [step[0] for step in made[0]] if rng.random() < 0.7}
    return cuts, rng.choice((1, 2, 3, 5)), rng.random() < 0.5, hows(rng, made, told, columns)
