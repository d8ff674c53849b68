"""Paths: lists of corners (purse, parts) with straight lines between them."""

from shortpurse.errors import NoPurse
from shortpurse.fractions import before, minus, over, plus, times


def thinned(corners):
    last = len(corners) - 1
    return [
        corner for place, corner in enumerate(corners)
        if place == 0 or place == last or not is_straight(corners[place - 1], corner, corners[place + 1])
    ]


def parts_at(path, purse):
    if purse[0] < 0:
        raise NoPurse("a purse below 0")
    place = last_reached([corner[0] for corner in path], purse)
    if place == len(path) - 1:
        return path[place][1]
    return parts_between(path[place], path[place + 1], purse)


def turned(path):
    end = path[-1]
    return [(minus(end[0], corner[0]), less_each(end[1], corner[1])) for corner in reversed(path)]


def scaled(path, portion):
    return [(times(corner[0], portion), tuple([times(part, portion) for part in corner[1]])) for corner in path]


def behind(path, second):
    end = path[-1]
    moved = [(plus(end[0], corner[0]), plus_each(end[1], corner[1])) for corner in second[1:]]
    # The last line of the first path may go on straight in the second one.
    return thinned(path + moved)


def within(path, others):
    purses = [corner[0] for corner in path]
    for place, other in enumerate(others):
        purses = merged(purses, purses_reaching(path, place, [corner[0] for corner in other]))
    # None of these between the ends lies on a straight line: at each one a part of
    # the path bends, or goes on rising while its other path bends.
    return [(purse, parts_within(path, others, purse)) for purse in purses]


def parted(path, second):
    same = path[0][0]
    # From one of these purses to the next one both paths go straight, so that
    # alike at both ends they are alike throughout, and else part at the first.
    for purse in merged([corner[0] for corner in path], [corner[0] for corner in second]):
        place = first_unlike(parts_at(path, purse), parts_at(second, purse))
        if place is not None:
            return (same, purse, place)
        same = purse
    return None


def is_straight(ahead, corner, following):
    # Crosswise by whole numbers alone: lowest terms are not asked for here, and
    # to seek them would take most of the time where numbers have many figures.
    near = gap(ahead[0], corner[0])
    far = gap(ahead[0], following[0])
    for place, start in enumerate(ahead[1]):
        rise = gap(start, corner[1][place])
        whole = gap(start, following[1][place])
        if rise[0] * near[1] * whole[1] * far[0] != whole[0] * far[1] * rise[1] * near[0]:
            return False
    return True


def gap(one, two):
    return (two[0] * one[1] - one[0] * two[1], one[1] * two[1])


def parts_between(start, end, purse):
    portion = portion_reached(start[0], end[0], purse)
    return tuple([amount_at(one, two, portion) for one, two in zip(start[1], end[1])])


def portion_reached(start, end, amount):
    return over(minus(amount, start), minus(end, start))


def amount_at(start, end, portion):
    return plus(start, times(portion, minus(end, start)))


def plus_each(ones, twos):
    return tuple([plus(one, two) for one, two in zip(ones, twos)])


def less_each(ones, twos):
    return tuple([minus(one, two) for one, two in zip(ones, twos)])


def last_reached(amounts, amount):
    # The amounts rise from 0 on, so halving finds the last one that is no greater.
    low = 0
    high = len(amounts)
    while high - low > 1:
        middle = (low + high) // 2
        if before(amount, amounts[middle]):
            high = middle
        else:
            low = middle
    return low


def purses_reaching(path, place, levels):
    amounts = [corner[1][place] for corner in path]
    purses = []
    for level in levels:
        reached = last_reached(amounts, level)
        # The path comes to the last level at a corner of its own.
        if reached < len(path) - 1:
            portion = portion_reached(amounts[reached], amounts[reached + 1], level)
            purses.append(amount_at(path[reached][0], path[reached + 1][0], portion))
    return purses


def parts_within(path, others, purse):
    parts = []
    for part, other in zip(parts_at(path, purse), others):
        parts.extend(parts_at(other, part))
    return tuple(parts)


def merged(ones, twos):
    numbers = []
    one = 0
    two = 0
    while one < len(ones) and two < len(twos):
        if before(ones[one], twos[two]):
            numbers.append(ones[one])
            one += 1
        else:
            if ones[one] == twos[two]:
                one += 1
            numbers.append(twos[two])
            two += 1
    return numbers + ones[one:] + twos[two:]


def first_unlike(ones, twos):
    for place, one in enumerate(ones):
        if one != twos[place]:
            return place
    return None
