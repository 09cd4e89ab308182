"""Questions over views, unfolded: in the place of each atom its view's atoms."""

from askviews.errors import NoView
from askviews.maps import image
from askviews.questions import terms_of, unknowns_of
from askviews.terms import is_unknown, new_values


def unfolded(views, question):
    return (question[0], joined(unfolded_parts(views, question)))


def unfolded_parts(views, question):
    # For each atom what it comes to, by itself: so it stays known which atom brings what.
    kept = dict(views)
    check_views(kept, question)
    fresh = new_unknowns(kept, question)
    parts = []
    for name, terms in question[1]:
        head, atoms = kept[name]
        inner = inner_unknowns(kept[name])
        given = dict(zip(list(head) + inner, list(terms) + fresh[:len(inner)]))
        fresh = fresh[len(inner):]
        parts.append([(table, image(held, given)) for table, held in atoms])
    return parts


def joined(parts):
    atoms = []
    for part in parts:
        atoms.extend(part)
    return tuple(atoms)


def check_views(kept, question):
    for place, atom in enumerate(question[1]):
        name, terms = atom
        if name not in kept or len(kept[name][0]) != len(terms):
            raise NoView(place)


def new_unknowns(kept, question):
    count = sum([len(inner_unknowns(kept[name])) for name, terms in question[1]])
    # The head's too: of a rewriting that is only tried, one may stand in no atom.
    taken = [term[1:] for term in terms_of(question) if is_unknown(term)]
    return ["?" + value for value in new_values(count, taken)]


def inner_unknowns(view):
    return [unknown for unknown in unknowns_of(view) if unknown not in view[0]]
