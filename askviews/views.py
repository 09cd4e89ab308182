"""Views: questions that are kept by names, and what they see of tables."""

from askviews.answers import answers
from askviews.questions import is_question
from askviews.tables import sorted_tables
from askviews.terms import is_pair, is_unknown, is_value


def is_view(thing):
    if not (is_pair(thing) and is_value(thing[0]) and is_question(thing[1])):
        return False
    return is_view_head(thing[1][0])


def is_view_head(head):
    return len(head) > 0 and all([is_unknown(term) for term in head]) and len(set(head)) == len(head)


def is_views(thing):
    if not (isinstance(thing, list) and all([is_view(view) for view in thing])):
        return False
    return len(set([view[0] for view in thing])) == len(thing)


def seen(views, tables):
    found = {}
    for name, question in views:
        found[name] = answers(question, tables)
    return sorted_tables(found)
