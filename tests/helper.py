"""What the tests share: rows of corners, and the document's words told by Python's own Fractions."""

from fractions import Fraction
from random import Random


def told(number):
    number = Fraction(number)
    return (number.numerator, number.denominator)


def meant(pair):
    return Fraction(pair[0], pair[1])


def corner(parts):
    return (told(sum(parts)), tuple(told(part) for part in parts))


def row(*rows_of_parts):
    """A row of corners: 0 first, then the parts that are handed in."""
    return [corner([0] * len(rows_of_parts[0]))] + [corner(parts) for parts in rows_of_parts]


def nothing(count):
    """The path of the one corner, with so many parts."""
    return [corner([0] * count)]


def straight(ahead, middle, following):
    portion = (meant(middle[0]) - meant(ahead[0])) / (meant(following[0]) - meant(ahead[0]))
    return all(
        meant(part) == meant(start) + portion * (meant(end) - meant(start))
        for start, part, end in zip(ahead[1], middle[1], following[1])
    )


def path_of(corners):
    """The path of a row, built corner by corner from those that are kept."""
    kept = []
    for each in corners:
        if len(kept) > 1 and straight(kept[-2], kept[-1], each):
            kept.pop()
        kept.append(each)
    return kept


def parts_of(path, purse):
    """The parts at a purse, by the lines one after the other, as Fractions."""
    for start, end in zip(path, path[1:]):
        low, high = meant(start[0]), meant(end[0])
        if low <= purse <= high:
            portion = (purse - low) / (high - low)
            return [meant(one) + portion * (meant(two) - meant(one)) for one, two in zip(start[1], end[1])]
    return [meant(part) for part in path[-1][1]]


def some_purses(*paths):
    """Every corner's purse, the middles between those, and thirds of the whole."""
    purses = sorted({meant(each[0]) for path in paths for each in path})
    middles = [(one + two) / 2 for one, two in zip(purses, purses[1:])]
    return sorted(set(purses + middles + [purses[-1] * k / 3 for k in range(4)]))


def random_row(seed, count, corners, figures=2):
    """A row with many lines that go on straight, and many parts that stay level."""
    random = Random(seed)
    top = 10 ** figures - 1
    parts = [Fraction(0)] * count
    corners_told = [corner(parts)]
    steps = [Fraction(1)] + [Fraction(0)] * (count - 1)
    while len(corners_told) < corners:
        if random.random() < 0.7:
            bottom = random.randint(1, top)
            steps = [Fraction(random.choice([0, random.randint(1, top)]), bottom) for place in range(count)]
        if any(steps):
            stretch = random.randint(1, 3)
            parts = [part + step * stretch for part, step in zip(parts, steps)]
            corners_told.append(corner(parts))
    return corners_told


def random_path(seed, count, corners, figures=2):
    return path_of(random_row(seed, count, corners, figures))


def stretched(path, purse):
    """The path with all its numbers multiplied, so that it ends at a purse; the one corner for 0."""
    if purse == 0:
        return path[:1]
    factor = purse / meant(path[-1][0])
    return [corner([meant(part) * factor for part in each[1]]) for each in path]


def fault_of_fraction(pair):
    if not isinstance(pair, tuple) or len(pair) != 2:
        return f"no pair: {pair!r}"
    if any(type(number) is not int for number in pair):
        return f"no whole numbers: {pair!r}"
    if pair[1] < 1 or told(meant(pair)) != pair:
        return f"not in lowest terms: {pair!r}"
    return None


def faults_of_path(path):
    """What keeps a value from being a path as point 8 tells, in words."""
    if not isinstance(path, list) or not path:
        return ["no list of corners"]
    faults = []
    for each in path:
        if not isinstance(each, tuple) or len(each) != 2 or not isinstance(each[1], tuple):
            return [f"no corner: {each!r}"]
        faults += [fault for fault in map(fault_of_fraction, (each[0],) + each[1]) if fault]
    if faults:
        return faults
    if len({len(each[1]) for each in path}) != 1:
        faults.append("unlike numbers of parts")
    if path[0] != corner([0] * len(path[0][1])):
        faults.append("the first corner is not 0")
    if any(sum(map(meant, each[1])) != meant(each[0]) for each in path):
        faults.append("parts that do not come to the purse")
    for one, two in zip(path, path[1:]):
        if meant(one[0]) >= meant(two[0]):
            faults.append("the purse does not rise")
        if any(meant(before) > meant(behind) for before, behind in zip(one[1], two[1])):
            faults.append("a part falls")
    if not faults and any(straight(*three) for three in zip(path, path[1:], path[2:])):
        faults.append("a corner on a straight line")
    return faults
