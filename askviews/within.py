"""Whether one question lies within another one, for all tables that there may be, and what shows it."""

from askviews.maps import found_map, image
from askviews.questions import terms_of, unknowns_of
from askviews.tables import tables_of
from askviews.terms import new_values


def is_map(one, other, pairs):
    if [pair[0] for pair in pairs] != sorted(unknowns_of(other)):
        return False
    given = dict(pairs)
    if image(other[0], given) != one[0]:
        return False
    return all([(name, image(terms, given)) in one[1] for name, terms in other[1]])


def within(one, other):
    given = found_map(one, other)
    if given is None:
        return parted(one, other)
    return ("within", sorted(given.items()))


def same(one, other):
    there = within(one, other)
    if there[0] == "parted":
        return ("unlike", there[1], there[2])
    back = within(other, one)
    if back[0] == "parted":
        return ("unlike", back[1], back[2])
    return ("same", there[1], back[1])


def parted(one, other):
    # With values that neither has, an answer of the other one in the one's own atoms would lead back to a map.
    unknowns = unknowns_of(one)
    values = new_values(len(unknowns), terms_of(one) + terms_of(other))
    given = dict(zip(unknowns, values))
    tables = tables_of([(name, image(terms, given)) for name, terms in one[1]])
    return ("parted", tables, image(one[0], given))
