"""Rewritings: questions over views that ask the same as a question over tables."""

from askviews.answers import answers
from askviews.errors import TooMany
from askviews.least import is_bound
from askviews.maps import MapSearch, found_map
from askviews.questions import unknowns_of
from askviews.tables import tables_of
from askviews.unfolding import joined, unfolded, unfolded_parts
from askviews.within import within

MOST_CANDIDATES = 10


def candidates(views, question):
    # The maps of a view to the question's terms are just those by which it is answered from the question's own atoms.
    tables = tables_of(question[1])
    found = []
    for name, view in views:
        found.extend([(name, terms) for terms in answers(view, tables)])
    return found


def rewritten(views, question):
    widest = widest_rewriting(views, question)
    if not is_bound(widest):
        return ("loose",)
    told = within(unfolded(views, widest), question)
    if told[0] == "parted":
        return ("short", told[1], told[2])
    way = min(ways_of(views, question, widest), key=len)
    rewriting = (question[0], tuple([widest[1][number] for number in way]))
    flat = unfolded(views, rewriting)
    return ("whole", rewriting, flat, within(flat, question)[1], back_map(question, rewriting, flat))


def spare_ways(views, question):
    return ways_of(views, question, widest_rewriting(views, question))


def widest_rewriting(views, question):
    found = candidates(views, question)
    if len(found) > MOST_CANDIDATES:
        raise TooMany(f"more than {MOST_CANDIDATES} candidates")
    return (question[0], tuple(found))


def back_map(question, rewriting, flat):
    # A candidate's terms are the question's own and stay what they are: so each one's atoms are mapped by themselves.
    own = unknowns_of(rewriting)
    return sorted(MapSearch(question[1]).mapped(list(flat[1]), dict(zip(own, own))).items())


def ways_of(views, question, widest):
    parts = unfolded_parts(views, widest)
    if not is_whole(question, parts):
        return []
    needed = [number for number in range(len(parts)) if not is_whole(question, parts[:number] + parts[number + 1:])]
    ways = []
    # What holds a whole set is whole too: so none is a spare way that holds one that was found ahead of it.
    for way in sets_with(needed, len(parts)):
        held = any([all([number in way for number in earlier]) for earlier in ways])
        if not held and is_whole(question, [parts[number] for number in way]):
            ways.append(way)
    return sorted(ways)


def is_whole(question, parts):
    # The way back there is always, and without an atom, or one of the head's unknowns, there is no map.
    return found_map((question[0], joined(parts)), question) is not None


def sets_with(needed, count):
    # Each set comes behind all those that it holds.
    found = [[]]
    for number in range(count):
        beside = [chosen + [number] for chosen in found]
        found = beside if number in needed else found + beside
    return found
