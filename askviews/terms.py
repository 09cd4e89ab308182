"""Values, unknowns, terms and atoms: what a question is made of."""

# Written out, since Python's own tests for letters and figures take those of all scripts.
SIGNS = "abcdefghijklmnopqrstuvwxyz0123456789"
MOST_SIGNS = 8
MOST_TERMS = 4


def is_value(thing):
    if not isinstance(thing, str):
        return False
    return 1 <= len(thing) <= MOST_SIGNS and all([sign in SIGNS for sign in thing])


def is_unknown(thing):
    return isinstance(thing, str) and thing.startswith("?") and is_value(thing[1:])


def is_term(thing):
    return is_value(thing) or is_unknown(thing)


def is_pair(thing):
    return isinstance(thing, tuple) and len(thing) == 2


def are_terms(thing, fewest):
    # A head may have none and an atom may not: only the fewest is the asker's to say.
    if not isinstance(thing, tuple):
        return False
    return fewest <= len(thing) <= MOST_TERMS and all([is_term(term) for term in thing])


def is_atom(thing):
    return is_pair(thing) and is_value(thing[0]) and are_terms(thing[1], 1)


def new_values(count, taken):
    found = []
    number = 0
    while len(found) < count:
        value = "n" + str(number)
        if value not in taken:
            found.append(value)
        number += 1
    return found
