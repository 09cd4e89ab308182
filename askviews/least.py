"""Least forms: a question without the atoms that it asks the same without."""

from askviews.maps import found_map
from askviews.questions import loose_unknowns
from askviews.within import within


def least(question):
    form = least_form(question)
    fold = within(form, question)[1]
    return (form, fold, [show(form, place) for place in range(len(form[1]))])


def least_form(question):
    # One walk is enough: where an atom can be left out of a shorter form, it could be left out of the longer one too.
    form = question
    for place in range(len(question[1]) - 1, -1, -1):
        # Where what is left is no question, there is no map either: the head's unknowns, and any atom, have to be met.
        fewer = left_out(form, place)
        if found_map(fewer, form) is not None:
            form = fewer
    return form


def left_out(question, place):
    head, atoms = question
    return (head, atoms[:place] + atoms[place + 1:])


def is_bound(question):
    return len(question[1]) > 0 and loose_unknowns(question) == []


def show(form, place):
    fewer = left_out(form, place)
    if not is_bound(fewer):
        return None
    told = within(fewer, form)
    return (told[1], told[2])
