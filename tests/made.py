"""Sayings and speeches that several tests ask about."""

SPEECH = (("switch", 2), ("gate", 3), ("tag", 4))

NINE = (
    ("none",),
    ("all",),
    ("is", "gate", 2),
    ("put", "tag", 3),
    ("not", ("is", "switch", 1)),
    ("either", ("all",), ("none",)),
    ("then", ("is", "tag", 0), ("put", "gate", 0)),
    ("again", ("put", "switch", 1)),
    ("note",),
)

HOLDING = ("not", "either", "then", "again")


def held(saying):
    return saying[1:] if saying[0] in HOLDING else ()


def parts(saying):
    return 1 + sum(parts(one) for one in held(saying))


def depth(saying):
    return 1 + max([depth(one) for one in held(saying)], default=0)


def chain(sort, saying, times):
    for _ in range(times):
        saying = (sort, saying)
    return saying


def tree(sort, leaf, levels):
    saying = leaf
    for _ in range(levels):
        saying = (sort, saying, saying)
    return saying


def told_size(leaf, last, holder):
    """A saying of the size that a net's may have: 80 one within another,
    near 2000 parts; `last` stands once, at the right end, deep within."""
    saying = last
    for _ in range(60):
        saying = ("then", tree("either", leaf, 4), saying)
    return chain(holder, saying, 15)
