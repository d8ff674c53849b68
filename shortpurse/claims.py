"""Claims: tuples (amount, rank, group) of whole numbers from 0 on."""

from shortpurse.errors import NoClaims

MOST = 8


def check_claims(claims):
    if len(claims) == 0 or len(claims) > MOST:
        raise NoClaims("there are one to eight claims")
    for claim in claims:
        if min(claim) < 0:
            raise NoClaims("a claim with a number below 0")


def those_at(claims, places):
    return [claims[place] for place in places]


def places_of_rank(claims, rank):
    return [place for place, claim in enumerate(claims) if claim[1] == rank]


def places_of_group(claims, group):
    return [place for place, claim in enumerate(claims) if claim[2] == group]


def as_one_claim(claims, group):
    return (sum([claim[0] for claim in claims]), min([claim[1] for claim in claims]), group)
