"""Equations over whole numbers, solved exactly in fractions."""


def without_place(row, pivot_row, place, divisor):
    """The row, times a factor, less so many times the pivot row that 0 stands at the place."""
    pivot = pivot_row[place]
    factor = row[place]
    return [(pivot * row[i] - factor * pivot_row[i]) // divisor for i in range(len(row))]


def cleared(rows, place, divisor):
    """The rows, with 0 at the place in all but the one that is called by it."""
    pivot_row = rows[place]
    return [rows[i] if i == place else without_place(rows[i], pivot_row, place, divisor) for i in range(len(rows))]


def lowest_terms(numerator, denominator):
    """The fraction's two numbers without their common divisor; the denominator is above 0."""
    divisor = denominator
    rest = numerator
    while rest != 0:
        smaller = divisor % rest
        divisor = rest
        rest = smaller
    return [numerator // divisor, denominator // divisor]


def solved(equations):
    """The fractions that fulfil these equations, in one list: numerator, denominator, numerator ..

    There are as many equations as fractions. Each is its factors, then its
    right side, which isn't below 0.
    """
    # On the diagonal the factors are above 0, elsewhere they aren't. They come
    # in no row to less than 0, and from each row a path of factors below 0 goes
    # to one where they come to more (in a web: each kind is fed by the sun in
    # the end). So every pivot is above 0 and no rows have to change places; and
    # each step is divided by the pivot before it without a rest (Bareiss).
    rows = equations
    divisor = 1
    for place in range(len(equations)):
        rows = cleared(rows, place, divisor)
        divisor = rows[place][place]
    fractions = []
    for row in rows:
        fractions.extend(lowest_terms(row[-1], divisor))
    return fractions
