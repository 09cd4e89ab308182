"""The search for a map from another question to the one.

While it is searched for, a map is a dict that gives terms to those of the other's unknowns that have one already.
"""

from askviews.terms import is_unknown


def image(terms, given):
    return tuple([given.get(term, term) for term in terms])


def found_map(one, other):
    given = fitted({}, other[0], one[0])
    if given is None:
        return None
    return MapSearch(one[1]).mapped(list(other[1]), given)


def fitted(given, terms, aim):
    if len(terms) != len(aim):
        return None
    longer = dict(given)
    for term, aimed in zip(terms, aim):
        meant = longer.setdefault(term, aimed) if is_unknown(term) else term
        if meant != aimed:
            return None
    return longer


class MapSearch:
    def __init__(self, atoms):
        self.aims = {}
        self.vain = {}
        self.add(atoms)

    def add(self, atoms):
        # There may be very many aims: so they are kept by each term that they have, at its place, too.
        for name, terms in atoms:
            self.aims.setdefault((name, len(terms)), {})[terms] = True
            for place, term in enumerate(terms):
                self.aims.setdefault((name, len(terms), place, term), {})[terms] = True
        # What had no map before may have one now.
        self.vain = {}

    def mapped(self, atoms, given):
        # Parts don't hang on one another: where one has no map, no other map of those ahead of it would help.
        for part in parts_of(atoms, given):
            given = self.mapped_part(part, given)
            if given is None:
                return None
        return given

    def mapped_part(self, part, given):
        # A part is reached in many ways that give its own unknowns the same: it is searched once for them all.
        key = (tuple(part), tuple([tuple([given.get(term) for term in terms]) for name, terms in part]))
        if key in self.vain:
            return None
        aims = [self.aims_of(atom, given) for atom in part]
        counts = [len(found) for found in aims]
        place = counts.index(min(counts))
        for aim in aims[place]:
            way = fitted(given, part[place][1], aim)
            whole = None if way is None else self.mapped(part[:place] + part[place + 1:], way)
            if whole is not None:
                return whole
        self.vain[key] = True
        return None

    def aims_of(self, atom, given):
        name, terms = atom
        fixed = [place for place, term in enumerate(terms) if term in given or not is_unknown(term)]
        bound = [(place, given.get(terms[place], terms[place])) for place in fixed]
        found = self.aims.get((name, len(terms)), {})
        for place, term in bound:
            closer = self.aims.get((name, len(terms), place, term), {})
            found = closer if len(closer) < len(found) else found
        return [aim for aim in found if all([aim[place] == term for place, term in bound])]


def parts_of(atoms, given):
    parts = []
    for atom in atoms:
        part = [atom]
        beside = []
        for earlier in parts:
            if is_touched(earlier, atom, given):
                part = earlier + part
            else:
                beside.append(earlier)
        parts = beside + [part]
    return parts


def is_touched(part, atom, given):
    # An unknown that is given its term already binds nothing any more.
    free = [term for term in atom[1] if is_unknown(term) and term not in given]
    return any([any([term in other[1] for term in free]) for other in part])
