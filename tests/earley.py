"""The grammar of jobs' lines, told once more as a table, and a recognizer that goes over it."""

NAME, NUMBER, QUOTED = "<name>", "<number>", "<quoted>"


def grammar(text):
    rules = {}
    for line in text.strip().split("\n"):
        head, bodies = line.split("::=")
        rules[head.strip()] = [tuple(body.split()) for body in bodies.split(" OR ")]
    return rules


GRAMMAR = grammar("""
LINE ::= READ OR ANSWER OR <name> = STEP
READ ::= read <name> ( COLUMNS )
ANSWER ::= answer <name>
COLUMNS ::= COLUMN OR COLUMNS , COLUMN
COLUMN ::= <name> int OR <name> text
STEP ::= FILTER OR MAP OR FOLD OR JOIN OR UNION OR UNLIKE OR SORT
FILTER ::= filter <name> where E
MAP ::= map <name> to MAPPED
MAPPED ::= MAPONE OR MAPPED , MAPONE
MAPONE ::= E as <name> OR BARE
BARE ::= <name> OR ( BARE )
FOLD ::= fold <name> : FOLDS OR fold <name> by NAMES : FOLDS
NAMES ::= <name> OR NAMES , <name>
FOLDS ::= FOLDED OR FOLDS , FOLDED
FOLDED ::= count ( ) as <name> OR KIND ( E ) as <name>
KIND ::= sum OR least OR greatest OR mean OR unlike
JOIN ::= join <name> , <name> by NAMES
UNION ::= union <name> , <name>
UNLIKE ::= unlike <name>
SORT ::= sort <name> by ORDER first <number>
ORDER ::= WAY OR ORDER , WAY
WAY ::= <name> up OR <name> down
E ::= EAND OR E or EAND
EAND ::= ENOT OR EAND and ENOT
ENOT ::= ECMP OR not ENOT
ECMP ::= ESUM OR ESUM CMP ESUM
CMP ::= = OR != OR < OR <= OR > OR >=
ESUM ::= EPROD OR ESUM + EPROD OR ESUM - EPROD
EPROD ::= ENEG OR EPROD * ENEG OR EPROD / ENEG OR EPROD mod ENEG
ENEG ::= EONE OR - ENEG
EONE ::= <number> OR <quoted> OR <name> OR length ( E ) OR ( E )
""")


def closed(items, chart):
    """An Earley set with all that follows from its items; no rule has an empty body."""
    waiting = list(items)
    here = len(chart)
    while waiting:
        head, body, dot, start = waiting.pop()
        more = []
        if dot < len(body):
            more = [(body[dot], inner, 0, here) for inner in GRAMMAR.get(body[dot], ())]
        else:
            more = [(h, b, d + 1, s) for h, b, d, s in chart[start] if d < len(b) and b[d] == head]
        for item in more:
            if item not in items:
                items.add(item)
                waiting.append(item)
    return items


def first_wrong(pieces):
    """The number of the first piece with which no right line goes on, len(pieces) for the end, or None."""
    chart = []
    chart.append(closed({("LINE", body, 0, 0) for body in GRAMMAR["LINE"]}, chart))
    for at, piece in enumerate(pieces):
        items = {(h, b, d + 1, s) for h, b, d, s in chart[at] if d < len(b) and b[d] == piece}
        if not items:
            return at
        chart.append(closed(items, chart))
    if any(h == "LINE" and d == len(b) and s == 0 for h, b, d, s in chart[-1]):
        return None
    return len(pieces)
