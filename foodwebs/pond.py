"""The calls on one pond's web; answers(calls) is the way in."""

SUN = 0
MOST_KINDS = 10
MOST_LINK_NUMBERS = 300
MOST_WEIGHT = 1000

WEB = 0
TOLD = 1
ALIVE = 2

NOT_REFUSED = 0
NOT_IN_RANGE = -1
DOES_NOT_LIVE = -5
EATS_OF_SUN = -6


class Pond:
    """One web: its kinds are 1 to n, its links' weights stand by (food, eater)."""

    def __init__(self):
        self.n = 1
        self.weights = {(SUN, 1): 1}


class Reader:
    """Goes through the numbers of a line once, from the front."""

    def __init__(self, calls):
        self.calls = calls
        self.place = 0

    def has_more(self):
        return self.place < len(self.calls)

    def next_number(self):
        number = self.calls[self.place]
        self.place += 1
        return number

    def next_row(self):
        length = self.next_number()
        row = self.calls[self.place:self.place + length]
        self.place += length
        return row


def eaters_by_food(pond):
    """For the sun and then each kind: the kinds that eat of it."""
    eaters = [[] for food in range(pond.n + 1)]
    for link in sorted(pond.weights):
        eaters[link[0]].append(link[1])
    return eaters


def living(eaters, gone):
    """The kinds, going up, that live with these gone."""
    lives = [False] * len(eaters)
    waiting = [SUN]
    while waiting:
        food = waiting.pop()
        for eater in eaters[food]:
            if not lives[eater] and eater not in gone:
                lives[eater] = True
                waiting.append(eater)
    return [kind for kind in range(1, len(eaters)) if lives[kind]]


def needs(eaters, k):
    """The kinds, going up, that k needs; k lives."""
    others = [kind for kind in range(1, len(eaters)) if kind != k]
    return [j for j in others if k not in living(eaters, [j])]


def one_longer(rows, kinds):
    """Each row with one greater kind behind it, in every way; the order of lists stays."""
    longer = []
    for row in rows:
        for kind in kinds:
            if not row or kind > row[-1]:
                longer.append(row + [kind])
    return longer


def smallest_cut(eaters, k):
    """The first smallest set without k that k falls by; k lives and doesn't eat of the sun."""
    others = [kind for kind in range(1, len(eaters)) if kind != k]
    rows = [[]]
    for size in range(1, len(others)):
        rows = one_longer(rows, others)
        for row in rows:
            if k not in living(eaters, row):
                return row
    # With all others gone no food is left to k, as the sun isn't one.
    return others


def counted(kinds):
    return [len(kinds)] + kinds


def is_kind(pond, k):
    return 1 <= k <= pond.n


def refusal_unless_living(pond, k):
    if not is_kind(pond, k):
        return NOT_IN_RANGE
    if k not in living(eaters_by_food(pond), []):
        return DOES_NOT_LIVE
    return NOT_REFUSED


def refusal_unless_fed_by_kinds(pond, k):
    refusal = refusal_unless_living(pond, k)
    if refusal == NOT_REFUSED and (SUN, k) in pond.weights:
        return EATS_OF_SUN
    return refusal


def is_link(n, food, eater, weight):
    if not 0 <= food <= n or not 1 <= eater <= n:
        return False
    return food != eater and 1 <= weight <= MOST_WEIGHT


def weights_of(n, links):
    """The links' weights by (food, eater), or None if these are no links of n kinds."""
    if len(links) > MOST_LINK_NUMBERS or len(links) % 3 != 0:
        return None
    weights = {}
    for place in range(0, len(links), 3):
        food = links[place]
        eater = links[place + 1]
        weight = links[place + 2]
        if not is_link(n, food, eater, weight) or (food, eater) in weights:
            return None
        weights[(food, eater)] = weight
    return weights


def web(pond, n, links):
    if not 1 <= n <= MOST_KINDS:
        return [NOT_IN_RANGE]
    weights = weights_of(n, links)
    if weights is None:
        return [NOT_IN_RANGE]
    pond.n = n
    pond.weights = weights
    return [0]


def told(pond):
    answer = [pond.n, len(pond.weights)]
    for link in sorted(pond.weights):
        answer.extend([link[0], link[1], pond.weights[link]])
    return answer


def alive(pond, kinds):
    if len(kinds) > MOST_KINDS or not all([is_kind(pond, kind) for kind in kinds]):
        return [NOT_IN_RANGE]
    return counted(living(eaters_by_food(pond), kinds))


def falls(pond, k):
    if not is_kind(pond, k):
        return [NOT_IN_RANGE]
    eaters = eaters_by_food(pond)
    still = living(eaters, [k])
    return counted([kind for kind in living(eaters, []) if kind not in still])


def needed(pond, k):
    refusal = refusal_unless_living(pond, k)
    if refusal != NOT_REFUSED:
        return [refusal]
    return counted(needs(eaters_by_food(pond), k))


def nearest(pond, k):
    refusal = refusal_unless_living(pond, k)
    if refusal != NOT_REFUSED:
        return [refusal]
    eaters = eaters_by_food(pond)
    candidates = needs(eaters, k)
    for j in candidates:
        below = needs(eaters, j)
        if all([other in below for other in candidates if other != j]):
            return [j]
    return [0]


def least(pond, k):
    refusal = refusal_unless_fed_by_kinds(pond, k)
    if refusal != NOT_REFUSED:
        return [refusal]
    return counted(smallest_cut(eaters_by_food(pond), k))


def ways(pond, k):
    refusal = refusal_unless_fed_by_kinds(pond, k)
    if refusal != NOT_REFUSED:
        return [refusal]
    # Menger's theorem: as k doesn't eat of the sun itself, there are as many
    # separate ways as a smallest set that brings k down has kinds.
    return [len(smallest_cut(eaters_by_food(pond), k))]


def worst(pond, m):
    if not 1 <= m <= pond.n:
        return [NOT_IN_RANGE]
    kinds = list(range(1, pond.n + 1))
    rows = [[]]
    for size in range(m):
        rows = one_longer(rows, kinds)
    eaters = eaters_by_food(pond)
    before = len(living(eaters, []))
    most = -1
    first = []
    for row in rows:
        fallen = before - len(living(eaters, row))
        # Only a greater number takes the place, so the first of equals stays.
        if fallen > most:
            most = fallen
            first = row
    return [most] + first


ON_ONE_NUMBER = {3: falls, 4: needed, 5: nearest, 6: least, 7: ways, 8: worst}


def answer_next(pond, reader):
    number = reader.next_number()
    if number == WEB:
        n = reader.next_number()
        return web(pond, n, reader.next_row())
    if number == TOLD:
        return told(pond)
    if number == ALIVE:
        return alive(pond, reader.next_row())
    call = ON_ONE_NUMBER[number]
    return call(pond, reader.next_number())


def answers(calls):
    """For each call of the line, on one new pond: how many numbers it answers, then these."""
    pond = Pond()
    reader = Reader(calls)
    given = []
    while reader.has_more():
        answer = answer_next(pond, reader)
        given.append(len(answer))
        given.extend(answer)
    return given
