"""What the tests share: rows of corners, and the document's words told by Python's own Fractions."""

from fractions import Fraction
from random import Random

from shortpurse import rules

PLAIN = {"shares": rules.Shares, "evenly": rules.Evenly, "losses": rules.Losses, "halves": rules.Halves}
SOME_SHAPES = [
    ("shares",),
    ("evenly",),
    ("losses",),
    ("halves",),
    ("other", ("halves",)),
    ("ranks", ("evenly",)),
    ("groups", ("losses",), ("evenly",)),
    ("upto", (2, 7), ("losses",), ("evenly",)),
]

def told(number):
    number = Fraction(number)
    return (number.numerator, number.denominator)


def meant(pair):
    return Fraction(pair[0], pair[1])


def corner(parts):
    return (told(sum(parts)), tuple(told(part) for part in parts))


def row(*rows_of_parts):
    """A row of corners: 0 first, then the parts that are handed in."""
    return [corner([0] * len(rows_of_parts[0]))] + [corner(parts) for parts in rows_of_parts]


def nothing(count):
    """The path of the one corner, with so many parts."""
    return [corner([0] * count)]


def straight(ahead, middle, following):
    portion = (meant(middle[0]) - meant(ahead[0])) / (meant(following[0]) - meant(ahead[0]))
    return all(
        meant(part) == meant(start) + portion * (meant(end) - meant(start))
        for start, part, end in zip(ahead[1], middle[1], following[1])
    )


def path_of(corners):
    """The path of a row, built corner by corner from those that are kept."""
    kept = []
    for each in corners:
        if len(kept) > 1 and straight(kept[-2], kept[-1], each):
            kept.pop()
        kept.append(each)
    return kept


def parts_of(path, purse):
    """The parts at a purse, by the lines one after the other, as Fractions."""
    for start, end in zip(path, path[1:]):
        low, high = meant(start[0]), meant(end[0])
        if low <= purse <= high:
            portion = (purse - low) / (high - low)
            return [meant(one) + portion * (meant(two) - meant(one)) for one, two in zip(start[1], end[1])]
    return [meant(part) for part in path[-1][1]]


def some_purses(*paths):
    """Every corner's purse, the middles between those, and thirds of the whole."""
    purses = sorted({meant(each[0]) for path in paths for each in path})
    middles = [(one + two) / 2 for one, two in zip(purses, purses[1:])]
    return sorted(set(purses + middles + [purses[-1] * k / 3 for k in range(4)]))


def random_row(seed, count, corners, figures=2):
    """A row with many lines that go on straight, and many parts that stay level."""
    random = Random(seed)
    top = 10 ** figures - 1
    parts = [Fraction(0)] * count
    corners_told = [corner(parts)]
    steps = [Fraction(1)] + [Fraction(0)] * (count - 1)
    while len(corners_told) < corners:
        if random.random() < 0.7:
            bottom = random.randint(1, top)
            steps = [Fraction(random.choice([0, random.randint(1, top)]), bottom) for place in range(count)]
        if any(steps):
            stretch = random.randint(1, 3)
            parts = [part + step * stretch for part, step in zip(parts, steps)]
            corners_told.append(corner(parts))
    return corners_told


def random_path(seed, count, corners, figures=2):
    return path_of(random_row(seed, count, corners, figures))


def stretched(path, purse):
    """The path with all its numbers multiplied, so that it ends at a purse; the one corner for 0."""
    if purse == 0:
        return path[:1]
    factor = purse / meant(path[-1][0])
    return [corner([meant(part) * factor for part in each[1]]) for each in path]


def fault_of_fraction(pair):
    if not isinstance(pair, tuple) or len(pair) != 2:
        return f"no pair: {pair!r}"
    if any(type(number) is not int for number in pair):
        return f"no whole numbers: {pair!r}"
    if pair[1] < 1 or told(meant(pair)) != pair:
        return f"not in lowest terms: {pair!r}"
    return None


def faults_of_path(path):
    """What keeps a value from being a path as point 8 tells, in words."""
    if not isinstance(path, list) or not path:
        return ["no list of corners"]
    faults = []
    for each in path:
        if not isinstance(each, tuple) or len(each) != 2 or not isinstance(each[1], tuple):
            return [f"no corner: {each!r}"]
        faults += [fault for fault in map(fault_of_fraction, (each[0],) + each[1]) if fault]
    if faults:
        return faults
    if len({len(each[1]) for each in path}) != 1:
        faults.append("unlike numbers of parts")
    if path[0] != corner([0] * len(path[0][1])):
        faults.append("the first corner is not 0")
    if any(sum(map(meant, each[1])) != meant(each[0]) for each in path):
        faults.append("parts that do not come to the purse")
    for one, two in zip(path, path[1:]):
        if meant(one[0]) >= meant(two[0]):
            faults.append("the purse does not rise")
        if any(meant(before) > meant(behind) for before, behind in zip(one[1], two[1])):
            faults.append("a part falls")
    if not faults and any(straight(*three) for three in zip(path, path[1:], path[2:])):
        faults.append("a corner on a straight line")
    return faults


def level_of(amounts, purse):
    """The level at which the lesser ones of amount and level come to the purse."""
    rising = sorted(amounts)
    for full in range(len(rising)):
        level = (purse - sum(rising[:full])) / Fraction(len(rising) - full)
        if level <= rising[full]:
            return level
    raise AssertionError("a purse beyond all claims")


def loss_of(amounts, purse):
    """The loss at which what the greater amounts keep comes to the purse."""
    falling = sorted(amounts, reverse=True)
    for kept in range(1, len(falling) + 1):
        loss = (sum(falling[:kept]) - purse) / Fraction(kept)
        if kept == len(falling) or loss >= falling[kept]:
            return loss
    raise AssertionError("a purse beyond all claims")


def portions(claims, portion):
    return [(amount * portion, rank, group) for amount, rank, group in claims]


def divided(shape, claims, purse):
    """What point 13 says of a rule, word for word, for a purse from 0 to all claims together."""
    amounts = [Fraction(claim[0]) for claim in claims]
    whole = sum(amounts)
    if whole == 0:
        return [Fraction(0)] * len(claims)
    word = shape[0]
    if word == "shares":
        return [amount * purse / whole for amount in amounts]
    if word == "evenly":
        level = level_of(amounts, purse)
        return [min(amount, level) for amount in amounts]
    if word == "losses":
        loss = loss_of(amounts, purse)
        return [amount - loss if amount > loss else Fraction(0) for amount in amounts]
    if word == "halves":
        return divided(("upto", (1, 2), ("evenly",), ("losses",)), claims, purse)
    if word == "other":
        return [amount - part for amount, part in zip(amounts, divided(shape[1], claims, whole - purse))]
    if word == "ranks":
        return divided_by_ranks(shape[1], claims, purse)
    if word == "groups":
        return divided_by_groups(shape[1], shape[2], claims, purse)
    portion = meant(shape[1])
    if purse <= portion * whole:
        return divided(shape[2], portions(claims, portion), purse)
    rest = [(claim[0] - portion * claim[0],) + claim[1:] for claim in claims]
    more = divided(shape[3], rest, purse - portion * whole)
    return [portion * amount + part for amount, part in zip(amounts, more)]


def divided_by_ranks(inner, claims, purse):
    parts = {}
    for rank in sorted({claim[1] for claim in claims}):
        places = [place for place in range(len(claims)) if claims[place][1] == rank]
        members = [claims[place] for place in places]
        paid = min(purse, sum(Fraction(claim[0]) for claim in members))
        purse -= paid
        parts.update(zip(places, divided(inner, members, paid)))
    return [parts[place] for place in range(len(claims))]


def divided_by_groups(outer, inner, claims, purse):
    parts = {}
    numbers = sorted({claim[2] for claim in claims})
    members = [[place for place in range(len(claims)) if claims[place][2] == number] for number in numbers]
    sums = [
        (sum(claims[place][0] for place in places), min(claims[place][1] for place in places), number)
        for number, places in zip(numbers, members)
    ]
    for places, got in zip(members, divided(outer, sums, purse)):
        parts.update(zip(places, divided(inner, [claims[place] for place in places], got)))
    return [parts[place] for place in range(len(claims))]


def rule_of(shape):
    """The rule of a shape, made by the classes of the interface."""
    word = shape[0]
    if word in PLAIN:
        return PLAIN[word]()
    if word == "other":
        return rules.Other(rule_of(shape[1]))
    if word == "ranks":
        return rules.Ranks(rule_of(shape[1]))
    if word == "groups":
        return rules.Groups(rule_of(shape[1]), rule_of(shape[2]))
    return rules.Upto(shape[1], rule_of(shape[2]), rule_of(shape[3]))


def text_of(shape):
    """The text of a shape, by the words of point 15."""
    if len(shape) == 1:
        return shape[0]
    if shape[0] == "upto":
        return f"upto({shape[1][0]}/{shape[1][1]}, {text_of(shape[2])}, {text_of(shape[3])})"
    return f"{shape[0]}({', '.join(text_of(inner) for inner in shape[1:])})"


def random_portion(random, figures):
    bottom = random.randint(2, 10 ** figures)
    return told(Fraction(random.randint(1, bottom - 1), bottom))


def random_shape(random, parts, grouped=True, figures=1):
    """A shape of so many parts, itself among them."""
    if parts == 1:
        return (random.choice(list(PLAIN)),)
    if parts == 2 or random.random() < 0.3:
        return (random.choice(["other", "ranks"]), random_shape(random, parts - 1, grouped, figures))
    cut = random.randint(1, parts - 2)
    one = random_shape(random, cut, grouped, figures)
    two = random_shape(random, parts - 1 - cut, grouped, figures)
    if grouped and random.random() < 0.5:
        return ("groups", one, two)
    return ("upto", random_portion(random, figures), one, two)


def random_claims(random, count, figures=2):
    """Claims with amounts of 0, equal ones, and ranks and groups not in their order."""
    some = [0, random.randint(1, 10 ** figures - 1)]
    claims = []
    for place in range(count):
        amount = random.choice(some) if random.random() < 0.3 else random.randint(0, 10 ** figures - 1)
        claims.append((amount, random.choice([7, 0, 3, 10 ** 59]), random.choice([5, 2, 10 ** 59, 0])))
    return claims
