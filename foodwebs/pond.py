"""The calls on one pond's web; answers(calls) is the way in."""

from foodwebs.equations import solved
from foodwebs.walks import SUN, living, needs, one_longer, reached, smallest_cut

MOST_KINDS = 10
MOST_LINK_NUMBERS = 300
MOST_WEIGHT = 1000
LONGEST_CHAIN = 60

WEB = 0
ALIVE = 2
WEIGHT = 16

NOT_REFUSED = 0
NOT_IN_RANGE = -1
DOES_NOT_LIVE = -5
EATS_OF_SUN = -6
NOT_ALL_LIVE = -7
LAST_KIND = -8
FOOD_IS_EATER = -9


class Pond:
    """One web: its kinds are 1 to n, its links' weights stand by (food, eater)."""

    def __init__(self):
        self.n = 1
        self.weights = {(SUN, 1): 1}


class Reader:
    """Goes through the numbers of a line once, from the front."""

    def __init__(self, calls):
        self.calls = calls
        self.place = 0

    def has_more(self):
        return self.place < len(self.calls)

    def next_number(self):
        number = self.calls[self.place]
        self.place += 1
        return number

    def next_row(self):
        length = self.next_number()
        row = self.calls[self.place:self.place + length]
        self.place += length
        return row


def eaters_by_food(pond):
    """For the sun and then each kind: the kinds that eat of it."""
    eaters = [[] for food in range(pond.n + 1)]
    for link in sorted(pond.weights):
        eaters[link[0]].append(link[1])
    return eaters


def kinds_of(pond):
    return list(range(1, pond.n + 1))


def foods_of(pond, eater):
    return [food for food in range(pond.n + 1) if (food, eater) in pond.weights]


def total_weight(pond, eater):
    return sum([pond.weights[(food, eater)] for food in foods_of(pond, eater)])


def equation(pond, eater, right):
    """What the eater's fraction has to fulfil: each kind's factor, then the right side."""
    # The shares are multiplied by the sum of the weights, so that all is whole.
    row = [-pond.weights.get((food, eater), 0) for food in kinds_of(pond)]
    row[eater - 1] = total_weight(pond, eater)
    return row + [right]


def one_link_more(pond, counts):
    """From how many chains come to the sun and each kind: how many with one link more do."""
    longer = [0] * len(counts)
    for link in pond.weights:
        longer[link[1]] += counts[link[0]]
    return longer


def chains_of_no_link(pond):
    """How many chains of no link come from the sun to itself and to each kind."""
    return [1] + [0] * pond.n


def listable(pond, listed):
    """The kinds, going up, that aren't listed and all of whose foods are."""
    rest = [kind for kind in kinds_of(pond) if kind not in listed]
    return [kind for kind in rest if all([food in listed for food in foods_of(pond, kind)])]


def counted(kinds):
    return [len(kinds)] + kinds


def is_kind(pond, k):
    return 1 <= k <= pond.n


def refusal_unless_living(pond, k):
    if not is_kind(pond, k):
        return NOT_IN_RANGE
    if k not in living(eaters_by_food(pond), []):
        return DOES_NOT_LIVE
    return NOT_REFUSED


def refusal_unless_fed_by_kinds(pond, k):
    refusal = refusal_unless_living(pond, k)
    if refusal == NOT_REFUSED and (SUN, k) in pond.weights:
        return EATS_OF_SUN
    return refusal


def all_live(pond):
    return len(living(eaters_by_food(pond), [])) == pond.n


def is_link(n, food, eater, weight):
    if not 0 <= food <= n or not 1 <= eater <= n:
        return False
    return food != eater and 1 <= weight <= MOST_WEIGHT


def weights_of(n, links):
    """The links' weights by (food, eater), or None if these are no links of n kinds."""
    if len(links) > MOST_LINK_NUMBERS or len(links) % 3 != 0:
        return None
    weights = {}
    for place in range(0, len(links), 3):
        food = links[place]
        eater = links[place + 1]
        weight = links[place + 2]
        if not is_link(n, food, eater, weight) or (food, eater) in weights:
            return None
        weights[(food, eater)] = weight
    return weights


def web(pond, n, links):
    if not 1 <= n <= MOST_KINDS:
        return [NOT_IN_RANGE]
    weights = weights_of(n, links)
    if weights is None:
        return [NOT_IN_RANGE]
    pond.n = n
    pond.weights = weights
    return [0]


def told(pond):
    answer = [pond.n, len(pond.weights)]
    for link in sorted(pond.weights):
        answer.extend([link[0], link[1], pond.weights[link]])
    return answer


def alive(pond, kinds):
    if len(kinds) > MOST_KINDS or not all([is_kind(pond, kind) for kind in kinds]):
        return [NOT_IN_RANGE]
    return counted(living(eaters_by_food(pond), kinds))


def falls(pond, k):
    if not is_kind(pond, k):
        return [NOT_IN_RANGE]
    eaters = eaters_by_food(pond)
    still = living(eaters, [k])
    return counted([kind for kind in living(eaters, []) if kind not in still])


def needed(pond, k):
    refusal = refusal_unless_living(pond, k)
    if refusal != NOT_REFUSED:
        return [refusal]
    return counted(needs(eaters_by_food(pond), k))


def nearest(pond, k):
    refusal = refusal_unless_living(pond, k)
    if refusal != NOT_REFUSED:
        return [refusal]
    eaters = eaters_by_food(pond)
    candidates = needs(eaters, k)
    for j in candidates:
        below = needs(eaters, j)
        if all([other in below for other in candidates if other != j]):
            return [j]
    return [0]


def least(pond, k):
    refusal = refusal_unless_fed_by_kinds(pond, k)
    if refusal != NOT_REFUSED:
        return [refusal]
    return counted(smallest_cut(eaters_by_food(pond), k))


def ways(pond, k):
    refusal = refusal_unless_fed_by_kinds(pond, k)
    if refusal != NOT_REFUSED:
        return [refusal]
    # Menger's theorem: as k doesn't eat of the sun itself, there are as many
    # separate ways as a smallest set that brings k down has kinds.
    return [len(smallest_cut(eaters_by_food(pond), k))]


def worst(pond, m):
    if not 1 <= m <= pond.n:
        return [NOT_IN_RANGE]
    rows = [[]]
    for size in range(m):
        rows = one_longer(rows, kinds_of(pond))
    eaters = eaters_by_food(pond)
    before = len(living(eaters, []))
    most = -1
    first = []
    for row in rows:
        fallen = before - len(living(eaters, row))
        # Only a greater number takes the place, so the first of equals stays.
        if fallen > most:
            most = fallen
            first = row
    return [most] + first


def levels(pond):
    if not all_live(pond):
        return [NOT_ALL_LIVE]
    rows = [equation(pond, kind, total_weight(pond, kind)) for kind in kinds_of(pond)]
    return [pond.n] + solved(rows)


def through(pond, j):
    if not is_kind(pond, j):
        return [NOT_IN_RANGE]
    if not all_live(pond):
        return [NOT_ALL_LIVE]
    rows = [equation(pond, kind, 0) for kind in kinds_of(pond)]
    # j's own foods don't count: it is 1 whatever it eats.
    rows[j - 1] = [1 if kind == j else 0 for kind in kinds_of(pond)] + [1]
    return [pond.n] + solved(rows)


def chains(pond, m):
    if not 1 <= m <= LONGEST_CHAIN:
        return [NOT_IN_RANGE]
    counts = chains_of_no_link(pond)
    for link in range(m):
        counts = one_link_more(pond, counts)
    return [pond.n] + counts[1:]


def shortest(pond, k):
    if not is_kind(pond, k):
        return [NOT_IN_RANGE]
    counts = chains_of_no_link(pond)
    # A shortest chain has no kind twice, so it has at most n links.
    for length in range(1, pond.n + 1):
        counts = one_link_more(pond, counts)
        if counts[k] > 0:
            return [length]
    return [0]


def together(pond, k):
    if not is_kind(pond, k):
        return [NOT_IN_RANGE]
    eaters = eaters_by_food(pond)
    behind = reached(eaters, k, [])
    ring = [kind for kind in behind if kind != k and k in reached(eaters, kind, [])]
    return counted(sorted(ring + [k]))


def order(pond):
    # With the sun ahead, foods need only be looked for in the list.
    listed = [SUN]
    ready = listable(pond, listed)
    while ready:
        listed.append(ready[0])
        ready = listable(pond, listed)
    return counted(listed[1:])


def called_without(k, kind):
    """What the sun or a kind is called once k is taken out."""
    return kind - 1 if kind > k else kind


def remove(pond, k):
    if not is_kind(pond, k):
        return [NOT_IN_RANGE]
    if pond.n == 1:
        return [LAST_KIND]
    kept = {}
    for link in pond.weights:
        if k not in link:
            kept[(called_without(k, link[0]), called_without(k, link[1]))] = pond.weights[link]
    pond.n -= 1
    pond.weights = kept
    return [pond.n]


def weigh(pond, f, e, w):
    if not 0 <= f <= pond.n or not is_kind(pond, e) or not 0 <= w <= MOST_WEIGHT:
        return [NOT_IN_RANGE]
    if f == e:
        return [FOOD_IS_EATER]
    before = 1 if (f, e) in pond.weights else 0
    if w > 0:
        pond.weights[(f, e)] = w
    elif before == 1:
        pond.weights.pop((f, e))
    return [before]


ON_NO_NUMBER = {1: told, 9: levels, 14: order}
ON_ONE_NUMBER = {
    3: falls, 4: needed, 5: nearest, 6: least, 7: ways, 8: worst,
    10: through, 11: chains, 12: shortest, 13: together, 15: remove,
}


def answer_next(pond, reader):
    number = reader.next_number()
    if number == WEB:
        n = reader.next_number()
        return web(pond, n, reader.next_row())
    if number == ALIVE:
        return alive(pond, reader.next_row())
    if number == WEIGHT:
        f = reader.next_number()
        e = reader.next_number()
        return weigh(pond, f, e, reader.next_number())
    if number in ON_NO_NUMBER:
        call = ON_NO_NUMBER[number]
        return call(pond)
    call = ON_ONE_NUMBER[number]
    return call(pond, reader.next_number())


def answers(calls):
    """For each call of the line, on one new pond: how many numbers it answers, then these."""
    pond = Pond()
    reader = Reader(calls)
    given = []
    while reader.has_more():
        answer = answer_next(pond, reader)
        given.append(len(answer))
        given.extend(answer)
    return given
