"""The answers of a question of tables, and by how many maps each one comes.

Maps are kept as tuples of the values that they give to those unknowns that are still needed, in their order; maps
that give these the same are kept as one, with how many they are.
"""

from askviews.questions import unknowns_of
from askviews.tables import rows_of


def answers(question, tables):
    return sorted(counts_of(question, tables))


def counted(question, tables):
    counts = counts_of(question, tables)
    return [(row, counts[row]) for row in sorted(counts)]


def counts_of(question, tables):
    head, atoms = question
    ends = ends_of(question)
    kept = []
    maps = {(): 1}
    # Atom by atom in their order: only for the first atoms, not for any others, is it bounded how many maps there are.
    for number, atom in enumerate(atoms):
        fresh = [unknown for unknown in unknowns_of(((), (atom,))) if unknown not in kept]
        longer = extended(maps, kept, fresh, atom[1], rows_of(tables, atom[0]))
        bound = kept + fresh
        kept = [unknown for unknown in bound if ends[unknown] > number]
        maps = narrowed(longer, bound, kept)
    return narrowed(list(maps.items()), kept, head)


def ends_of(question):
    # The head comes last of all: what stands in it is needed to the end.
    head, atoms = question
    ends = {}
    for number, atom in enumerate(atoms):
        for term in atom[1]:
            ends[term] = number
    for term in head:
        ends[term] = len(atoms)
    return ends


def narrowed(counted_maps, unknowns, terms):
    places = places_of(unknowns)
    counts = {}
    for given, count in counted_maps:
        row = image(terms, places, given)
        counts[row] = counts.get(row, 0) + count
    return counts


def places_of(unknowns):
    places = {}
    for place, unknown in enumerate(unknowns):
        places[unknown] = place
    return places


def image(terms, places, given):
    # A value has no place, and stands for itself.
    return tuple([given[places[term]] if term in places else term for term in terms])


def extended(maps, kept, fresh, terms, rows):
    known = [term for term in terms if term not in fresh]
    tails = tails_by_key([row for row in rows if is_image(row, terms)], terms, known, fresh)
    places = places_of(kept)
    longer = []
    for given, count in maps.items():
        for tail in tails.get(image(known, places, given), []):
            longer.append((given + tail, count))
    return longer


def is_image(row, terms):
    if len(row) != len(terms):
        return False
    return all([row[terms.index(term)] == value for term, value in zip(terms, row)])


def tails_by_key(rows, terms, known, fresh):
    # So no map is tried with each row: what it gives already leads to the rows that go with it.
    tails = {}
    for row in rows:
        key = tuple([row[terms.index(term)] for term in known])
        tails.setdefault(key, []).append(tuple([row[terms.index(term)] for term in fresh]))
    return tails
