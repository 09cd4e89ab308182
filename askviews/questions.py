"""Questions: a head, and the atoms that its unknowns stand in."""

from askviews.terms import are_terms, is_atom, is_pair, is_unknown

MOST_ATOMS = 8


def are_atoms(thing):
    if not isinstance(thing, tuple):
        return False
    return 1 <= len(thing) <= MOST_ATOMS and all([is_atom(atom) for atom in thing])


def is_question(thing):
    if not (is_pair(thing) and are_terms(thing[0], 0) and are_atoms(thing[1])):
        return False
    return loose_unknowns(thing) == []


def unknowns_of(question):
    # A dict keeps the order in which they came, and an unfolded question may have very many.
    found = {}
    for atom in question[1]:
        for term in atom[1]:
            if is_unknown(term):
                found[term] = True
    return list(found)


def terms_of(question):
    found = list(question[0])
    for atom in question[1]:
        found.extend(atom[1])
    return found


def loose_unknowns(question):
    bound = unknowns_of(question)
    return [term for term in question[0] if is_unknown(term) and term not in bound]
