"""The search for a map from another question to the one.

While it is searched for, a map is a dict that gives terms to those of the other's unknowns that have one already.
"""

from askviews.terms import is_unknown


def image(terms, given):
    return tuple([given.get(term, term) for term in terms])


def found_map(one, other):
    given = fitted({}, other[0], one[0])
    if given is None:
        return None
    return MapSearch(one[1]).mapped(list(other[1]), given)


def fitted(given, terms, aim):
    if len(terms) != len(aim):
        return None
    longer = dict(given)
    for term, aimed in zip(terms, aim):
        meant = longer.setdefault(term, aimed) if is_unknown(term) else term
        if meant != aimed:
            return None
    return longer


class MapSearch:
    def __init__(self, atoms):
        self.aims = {}
        for name, terms in sorted(set(atoms)):
            self.aims.setdefault(name, []).append(terms)
        self.vain = {}

    def mapped(self, atoms, given):
        # Parts don't hang on one another: where one has no map, no other map of those ahead of it would help.
        for part in parts_of(atoms, given):
            given = self.mapped_part(part, given)
            if given is None:
                return None
        return given

    def mapped_part(self, part, given):
        # A part is reached in many ways that give its own unknowns the same: it is searched once for them all.
        key = (tuple(part), tuple([tuple([given.get(term) for term in terms]) for name, terms in part]))
        if key in self.vain:
            return None
        ways = [self.ways_of(atom, given) for atom in part]
        counts = [len(found) for found in ways]
        place = counts.index(min(counts))
        for way in ways[place]:
            whole = self.mapped(part[:place] + part[place + 1:], way)
            if whole is not None:
                return whole
        self.vain[key] = True
        return None

    def ways_of(self, atom, given):
        ways = [fitted(given, atom[1], aim) for aim in self.aims.get(atom[0], [])]
        return [way for way in ways if way is not None]


def parts_of(atoms, given):
    parts = []
    for atom in atoms:
        part = [atom]
        beside = []
        for earlier in parts:
            if is_touched(earlier, atom, given):
                part = earlier + part
            else:
                beside.append(earlier)
        parts = beside + [part]
    return parts


def is_touched(part, atom, given):
    # An unknown that is given its term already binds nothing any more.
    free = [term for term in atom[1] if is_unknown(term) and term not in given]
    return any([any([term in other[1] for term in free]) for other in part])
