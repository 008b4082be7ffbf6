"""Sums: from what to what the acts of two words lead, and which of the words they let through."""


def sum_of(word, first, second):
    """What the act of the two words comes to, whether that is a word or not; over and rest of no nought."""
    if word == "plus":
        return first + second
    if word == "minus":
        return first - second
    if word == "times":
        return first * second
    return first // second if word == "over" else first % second


def pairs(word, one, other, *, width):
    """The stretches of the results, the first and the second words of all pairs of which the act doesn't fault."""
    first = _words_in(one, width)
    second = _words_in(other, width)
    if first is None or second is None:
        return (None, None, None)
    if word == "plus":
        return _added(first, second, width)
    if word == "minus":
        results, firsts, seconds = _added(first, _turned(second), width)
        return (results, firsts, _turned(seconds))
    if word == "times":
        return _multiplied(first, second, width)
    divisors = _without_nought(second)
    if divisors is None:
        return (None, None, None)
    return (_quotients(first, divisors) if word == "over" else _rests(first, divisors), first, divisors)


def twice(word, one, *, width):
    """The stretches of the results and of the words of which the act of the word and itself doesn't fault."""
    words = _words_in(one, width)
    let = None if words is None else _let_twice(word, words, width)
    if let is None:
        return (None, None)
    if word == "plus":
        return ((2 * let[0], 2 * let[1]), let)
    if word == "times":
        return ((_nearest_to_nought(let) ** 2, max(let[0] ** 2, let[1] ** 2)), let)
    return ((1, 1) if word == "over" else (0, 0), let)


def _let_twice(word, words, width):
    """Those of the words of which the act of the word and itself doesn't fault, None where there is none."""
    if word == "minus":
        return words
    if word in ("over", "rest"):
        return _without_nought(words)
    most = width // 2 if word == "plus" else _root(width)
    return _common(words, (-most, most))


def _root(width):
    """The greatest word whose square is a word."""
    return max([word for word in range(width + 1) if word * word <= width])


def _words_in(stretch, width):
    """The words of the stretch, None where there is none."""
    return None if stretch is None else _common(stretch, (-width, width))


def _common(one, other):
    """What two stretches have in common, None where that is nothing."""
    least, greatest = max(one[0], other[0]), min(one[1], other[1])
    return None if least > greatest else (least, greatest)


def _turned(stretch):
    """The stretch of the words less than nought by as much as these are above it."""
    return None if stretch is None else (-stretch[1], -stretch[0])


def _without_nought(stretch):
    """From the first to the last word of the stretch that isn't 0, None where there is none."""
    least = 1 if stretch[0] == 0 else stretch[0]
    greatest = -1 if stretch[1] == 0 else stretch[1]
    return None if least > greatest else (least, greatest)


def _nearest_to_nought(stretch):
    """How far the word of the stretch that is nearest to 0 is from it."""
    return max(0, stretch[0], -stretch[1])


def _added(one, other, width):
    """What pairs tells of plus: where one of the three is None all are."""
    results = _common((one[0] + other[0], one[1] + other[1]), (-width, width))
    firsts = _common(one, (-width - other[1], width - other[0]))
    seconds = _common(other, (-width - one[1], width - one[0]))
    return (results, firsts, seconds)


def _multiplied(one, other, width):
    """What pairs tells of times."""
    firsts = _factors(one, other, width)
    seconds = _factors(other, one, width)
    # Whether there is a pair at all hangs on the two words nearest to 0, for both sides alike.
    if firsts is None:
        return (None, None, None)
    products = []
    for first in range(firsts[0], firsts[1] + 1):
        least, greatest = _common(seconds, _partners(first, width))
        products.extend([first * least, first * greatest])
    return ((min(products), max(products)), firsts, seconds)


def _factors(stretch, other, width):
    """The words of the stretch that have a product with one of the other's that is a word."""
    return _common(stretch, _partners(_nearest_to_nought(other), width))


def _partners(word, width):
    """All words whose product with this one is a word."""
    most = width if word == 0 else width // abs(word)
    return (-most, most)


def _quotients(one, divisors):
    """From what to what the words of the one over those of the divisors lead."""
    # For divisors of one sign a quotient rises, or falls, from end to end by either word: only ends are looked at.
    ends = [divisors[0], divisors[1]]
    if divisors[0] < 0 < divisors[1]:
        ends.extend([-1, 1])
    found = [word // divisor for word in one for divisor in ends]
    return (min(found), max(found))


def _rests(one, divisors):
    """From what to what the rests of the words of the one by those of the divisors lead."""
    found = []
    for divisor in range(divisors[0], divisors[1] + 1):
        if divisor != 0:
            found.extend(_rests_by(one, divisor))
    return (min(found), max(found))


def _rests_by(one, divisor):
    """From what to what the rests of the words of the one by this divisor lead."""
    # While the quotient stays the rest rises with the word; where it changes both the least and the greatest come up.
    if one[0] // divisor == one[1] // divisor:
        return (one[0] % divisor, one[1] % divisor)
    return (0, divisor - 1) if divisor > 0 else (divisor + 1, 0)
