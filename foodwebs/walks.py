"""Walks along the links: eaters[food] lists the kinds that eat of the sun or a kind."""

SUN = 0


def reached(eaters, start, gone):
    """The kinds, going up, to which a chain without the gone ones comes from the start."""
    found = [False] * len(eaters)
    waiting = [start]
    while waiting:
        food = waiting.pop()
        for eater in eaters[food]:
            if not found[eater] and eater not in gone:
                found[eater] = True
                waiting.append(eater)
    return [kind for kind in range(1, len(eaters)) if found[kind]]


def living(eaters, gone):
    """The kinds, going up, that live with these gone."""
    return reached(eaters, SUN, gone)


def needs(eaters, k):
    """The kinds, going up, that k needs; k lives."""
    others = [kind for kind in range(1, len(eaters)) if kind != k]
    return [j for j in others if k not in living(eaters, [j])]


def one_longer(rows, kinds):
    """Each row with one greater kind behind it, in every way; the order of lists stays."""
    longer = []
    for row in rows:
        for kind in kinds:
            if not row or kind > row[-1]:
                longer.append(row + [kind])
    return longer


def smallest_cut(eaters, k):
    """The first smallest set without k that k falls by; k lives and doesn't eat of the sun."""
    others = [kind for kind in range(1, len(eaters)) if kind != k]
    rows = [[]]
    for size in range(1, len(others)):
        rows = one_longer(rows, others)
        for row in rows:
            if k not in living(eaters, row):
                return row
    # With all others gone no food is left to k, as the sun isn't one.
    return others
