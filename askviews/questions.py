"""Questions: a head, and the atoms that its unknowns stand in."""

from askviews.terms import are_terms, is_atom, is_pair, is_unknown, is_value

MOST_ATOMS = 8


def are_atoms(thing):
    if not isinstance(thing, tuple):
        return False
    return 1 <= len(thing) <= MOST_ATOMS and all([is_atom(atom) for atom in thing])


def is_question(thing):
    if not (is_pair(thing) and are_terms(thing[0], 0) and are_atoms(thing[1])):
        return False
    bound = unknowns_of(thing)
    return all([is_value(term) or term in bound for term in thing[0]])


def unknowns_of(question):
    # A dict keeps the order in which they came, and an unfolded question may have very many.
    found = {}
    for atom in question[1]:
        for term in atom[1]:
            if is_unknown(term):
                found[term] = True
    return list(found)
