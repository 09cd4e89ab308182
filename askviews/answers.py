"""The answers of a question of tables, and by how many maps each one comes.

A map is kept as the tuple of the values that it gives to the question's first unknowns, in their order.
"""

from askviews.questions import unknowns_of
from askviews.tables import rows_of


def answers(question, tables):
    return sorted(counts_of(question, tables))


def counted(question, tables):
    counts = counts_of(question, tables)
    return [(row, counts[row]) for row in sorted(counts)]


def counts_of(question, tables):
    places = places_of(question)
    counts = {}
    for given in maps_of(question, tables, places):
        row = image(question[0], places, given)
        counts[row] = counts.get(row, 0) + 1
    return counts


def places_of(question):
    places = {}
    for place, unknown in enumerate(unknowns_of(question)):
        places[unknown] = place
    return places


def image(terms, places, given):
    # A value has no place, and stands for itself.
    return tuple([given[places[term]] if term in places else term for term in terms])


def maps_of(question, tables, places):
    # Atom by atom in their order: only for the first atoms, not for any others, is it bounded how many maps there are.
    maps = [()]
    width = 0
    for name, terms in question[1]:
        known = [spot for spot, term in enumerate(terms) if places.get(term, -1) < width]
        fresh = [spot for spot, term in enumerate(terms) if spot not in known and terms.index(term) == spot]
        rows = [row for row in rows_of(tables, name) if is_image(row, terms)]
        maps = extended(maps, places, [terms[spot] for spot in known], tails_by_key(rows, known, fresh))
        width += len(fresh)
    return maps


def is_image(row, terms):
    if len(row) != len(terms):
        return False
    return all([row[terms.index(term)] == value for term, value in zip(terms, row)])


def tails_by_key(rows, known, fresh):
    # So no map is tried with each row: what it gives already leads to the rows that go with it.
    tails = {}
    for row in rows:
        key = tuple([row[spot] for spot in known])
        tails.setdefault(key, []).append(tuple([row[spot] for spot in fresh]))
    return tails


def extended(maps, places, known_terms, tails):
    longer = []
    for given in maps:
        for tail in tails.get(image(known_terms, places, given), []):
            longer.append(given + tail)
    return longer
