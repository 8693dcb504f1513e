"""Nests: spans of which each is under the next one, levels for all spans, and loose ones, none under another."""

from spanshelf.spans import are_numbers, check_spans, is_inside


def is_under(spans, number, other):
    inner = spans[number]
    outer = spans[other]
    if inner == outer:
        return number < other
    return is_inside(inner, outer)


def levels_of(spans):
    """Tell for each span how many a longest nest has that ends just below it."""
    levels = [0] * len(spans)
    # A span is under longer ones only, or under alike ones with a greater number.
    ordered = sorted([(high - low, number) for number, (low, high) in enumerate(spans)])
    for at, (length, number) in enumerate(ordered):
        below = [levels[inner] for size, inner in ordered[:at] if is_under(spans, inner, number)]
        levels[number] = max(below, default=-1) + 1
    return levels


def nest_through(spans, levels):
    """Tell a nest with one span of each level."""
    found = []
    for wanted in range(max(levels, default=-1), -1, -1):
        fitting = [number for number, level in enumerate(levels) if level == wanted]
        if found:
            fitting = [number for number in fitting if is_under(spans, number, found[-1])]
        found.append(fitting[0])
    return found[::-1]


def nest(spans):
    """Tell a tuple of a longest nest and a level for each span, as many levels as the nest has spans."""
    check_spans(spans)
    levels = levels_of(spans)
    return (nest_through(spans, levels), levels)


def first_pile(spans, piles, high):
    """Tell the first pile whose top ends no sooner than this, or the number of a new one."""
    for at, pile in enumerate(piles):
        if spans[pile[-1]][1] >= high:
            return at
    return len(piles)


def piles_of(spans):
    """Tell piles, in each of which any span is under the one it was laid on, and what lay on top one pile ahead."""
    piles = []
    ahead = {}
    # In this order a span is under just those that came sooner and end no sooner.
    for number in sorted(range(len(spans)), key=lambda one: (spans[one][0], -spans[one][1], -one)):
        at = first_pile(spans, piles, spans[number][1])
        if at == len(piles):
            piles.append([])
        piles[at].append(number)
        if at > 0:
            ahead[number] = piles[at - 1][-1]
    return piles, ahead


def one_of_each_pile(piles, ahead):
    """Tell one number of each pile, from the last one back, each with an end behind that of what lay ahead of it."""
    if not piles:
        return []
    found = [piles[-1][0]]
    while found[-1] in ahead:
        found.append(ahead[found[-1]])
    return sorted(found)


def loose(spans):
    """Tell a tuple of the most spans of which none is under another, and as many nests in which all spans stand."""
    check_spans(spans)
    piles, ahead = piles_of(spans)
    return (one_of_each_pile(piles, ahead), [pile[::-1] for pile in piles])


def is_nest(spans, numbers):
    if not are_numbers(numbers, spans):
        return False
    return all(is_under(spans, inner, outer) for inner, outer in zip(numbers, numbers[1:]))


def are_levels(spans, levels, many):
    if len(levels) != len(spans) or not all(0 <= level < many for level in levels):
        return False
    for inner, low_level in enumerate(levels):
        for outer, high_level in enumerate(levels):
            if low_level >= high_level and is_under(spans, inner, outer):
                return False
    return True


def shows_nest(spans, told):
    """Tell whether this is a nest, and levels for all spans, as many as the nest has numbers."""
    check_spans(spans)
    numbers, levels = told
    return is_nest(spans, numbers) and are_levels(spans, levels, len(numbers))


def are_loose(spans, numbers):
    if not are_numbers(numbers, spans):
        return False
    return not any(is_under(spans, inner, outer) for inner in numbers for outer in numbers)


def shows_loose(spans, told):
    """Tell whether none of these is under another, and just as many nests hold each span once."""
    check_spans(spans)
    numbers, nests = told
    if len(nests) != len(numbers) or not are_loose(spans, numbers):
        return False
    if not all(is_nest(spans, one) for one in nests):
        return False
    return sorted([number for one in nests for number in one]) == list(range(len(spans)))
