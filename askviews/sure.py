"""Sure answers: what is answered of whatever tables fit the rows that are held of views."""

from askviews.answers import answers
from askviews.errors import NoView
from askviews.maps import MapSearch, fitted, found_map, image
from askviews.questions import terms_of, unknowns_of
from askviews.tables import rows_of, tables_of
from askviews.terms import is_unknown, new_values
from askviews.unfolding import joined, unfolded_parts


def fits(views, held, tables):
    check_held(views, held)
    kept = dict(views)
    search = MapSearch(atoms_of(tables))
    return all([is_seen(kept[name], row, search) for name, row in atoms_of(held)])


def sure(views, held, question):
    check_held(views, held)
    head, atoms = question
    taken = taken_terms(views, held, question, ())
    tables = tables_of(joined(list(made_parts(views, held, taken).values())))
    # A row with a new value is not sure. So that none is made on the way, of which there may be very many, the head's
    # unknowns are held to the values that are not new: by atoms of a name without signs, as no table has.
    tables[""] = [(value,) for value in taken]
    return answers((head, tuple([("", (term,)) for term in head if is_unknown(term)]) + atoms), tables)


def shown_sure(views, held, question, row):
    check_held(views, held)
    parts = made_parts(views, held, taken_terms(views, held, question, row))
    made = joined(list(parts.values()))
    given = found_map((row, made), question)
    if given is None:
        return ("open", tables_of(made))
    return ("sure", used_rows(parts, [(name, image(terms, given)) for name, terms in question[1]]))


def check_held(views, held):
    kept = dict(views)
    for place, name in enumerate(sorted(held)):
        if name not in kept or any([len(row) != len(kept[name][0]) for row in held[name]]):
            raise NoView(place)


def atoms_of(tables):
    found = []
    for name in sorted(tables):
        found.extend([(name, row) for row in rows_of(tables, name)])
    return found


def is_seen(view, row, search):
    # This row alone is asked for: a view may see very many others of the tables.
    return search.mapped(list(view[1]), fitted({}, view[0], row)) is not None


def taken_terms(views, held, question, row):
    terms = terms_of(question) + list(row)
    for name, view in views:
        terms.extend(terms_of(view))
    for name, values in atoms_of(held):
        terms.extend(values)
    taken = {}
    for term in terms:
        taken[term] = True
    return taken


def made_parts(views, held, taken):
    # Of each held row what it brings, but of those that are seen already in what the ones ahead of them bring: so few
    # rows are made even of very many held ones, and they fit and tell just the same.
    parts = {}
    kept = dict(views)
    search = MapSearch([])
    for atom, part in zip(atoms_of(held), new_parts(views, held, taken)):
        if not is_seen(kept[atom[0]], atom[1], search):
            search.add(part)
            parts[atom] = part
    return parts


def new_parts(views, held, taken):
    parts = unfolded_parts(views, ((), tuple(atoms_of(held))))
    unknowns = unknowns_of(((), joined(parts)))
    given = dict(zip(unknowns, new_values(len(unknowns), taken)))
    return [[(name, image(terms, given)) for name, terms in part] for part in parts]


def used_rows(parts, images):
    used = [[atom for atom in parts if made in parts[atom]][0] for made in images]
    return sorted(set(used))
