"""The answers of a question of tables, and by how many maps each one comes.

Maps are kept as tuples of the values that they give to those unknowns that are still needed, in their order; maps
that give these the same are kept as one, with how many they are.
"""

from askviews.questions import unknowns_of
from askviews.tables import rows_of


def answers(question, tables):
    return sorted(counts_of(question, tables))


def counted(question, tables):
    counts = counts_of(question, tables)
    return [(row, counts[row]) for row in sorted(counts)]


def counts_of(question, tables):
    head, atoms = question
    asking = Asking(tables)
    left = list(atoms)
    while left:
        atom = left.pop(asking.best_place(left))
        asking.take(atom, needed_terms(head, left))
    return narrowed(list(asking.maps.items()), asking.kept, head)


def needed_terms(head, atoms):
    needed = dict(zip(head, head))
    for name, terms in atoms:
        needed.update(dict(zip(terms, terms)))
    return needed


class Asking:
    def __init__(self, tables):
        self.tables = tables
        self.kept = []
        self.maps = {(): 1}
        self.tails = {}

    def best_place(self, atoms):
        # Which atom comes next changes no answer, but how many maps are kept on the way: so the one that makes fewest.
        best, fewest = 0, None
        for place, atom in enumerate(atoms):
            count = sum([len(tails) for tails in self.tails_of_maps(atom)])
            if fewest is None or count < fewest:
                best, fewest = place, count
            if count <= len(self.maps):
                return place
        return best

    def take(self, atom, needed):
        bound = self.kept + self.fresh_unknowns(atom)
        longer = []
        for counted_map, tails in zip(self.maps.items(), self.tails_of_maps(atom)):
            given, count = counted_map
            longer.extend([(given + tail, count) for tail in tails])
        self.kept = [unknown for unknown in bound if unknown in needed]
        self.maps = narrowed(longer, bound, self.kept)

    def fresh_unknowns(self, atom):
        return [unknown for unknown in unknowns_of(((), (atom,))) if unknown not in self.kept]

    def tails_of_maps(self, atom):
        # So no map is tried with each row: what it gives already leads to the rows that go with it.
        fresh = self.fresh_unknowns(atom)
        known = [term for term in atom[1] if term not in fresh]
        key = (atom, tuple(known))
        if key not in self.tails:
            self.tails[key] = tails_by_key(rows_of(self.tables, atom[0]), atom[1], known, fresh)
        tails = self.tails[key]
        places = places_of(self.kept)
        return [tails.get(image(known, places, given), []) for given in self.maps]


def narrowed(counted_maps, unknowns, terms):
    places = places_of(unknowns)
    counts = {}
    for given, count in counted_maps:
        row = image(terms, places, given)
        counts[row] = counts.get(row, 0) + count
    return counts


def places_of(unknowns):
    places = {}
    for place, unknown in enumerate(unknowns):
        places[unknown] = place
    return places


def image(terms, places, given):
    # A value has no place, and stands for itself.
    return tuple([given[places[term]] if term in places else term for term in terms])


def is_image(row, terms):
    if len(row) != len(terms):
        return False
    return all([row[terms.index(term)] == value for term, value in zip(terms, row)])


def tails_by_key(rows, terms, known, fresh):
    tails = {}
    for row in rows:
        if is_image(row, terms):
            key = tuple([row[terms.index(term)] for term in known])
            tails.setdefault(key, []).append(tuple([row[terms.index(term)] for term in fresh]))
    return tails
