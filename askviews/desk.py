"""A desk: views, held rows and questions by names, told and asked by rows of words."""

from askviews.errors import NoAsk, NoHeld, NoRow, NoView, Twice
from askviews.least import least
from askviews.questiontexts import read, shown
from askviews.rewriting import candidates, rewritten, spare_ways
from askviews.sure import shown_sure, sure
from askviews.tables import tables_of
from askviews.terms import is_value
from askviews.unfolding import unfolded
from askviews.views import is_view_head
from askviews.within import within


def told_view(desk, name, text):
    if name in desk.views:
        raise Twice(f"a view is called {name} already")
    question = read(text)
    if not is_view_head(question[0]):
        raise NoView(0)
    desk.views[name] = question
    return "ok"


def told_ask(desk, name, text):
    if name in desk.questions:
        raise Twice(f"a question is called {name} already")
    desk.questions[name] = read(text)
    return "ok"


def told_hold(desk, words):
    name, row = held_row(words)
    if name not in desk.views or len(desk.views[name][0]) != len(row):
        raise NoView(0)
    desk.held[(name, row)] = True
    return "ok"


def told_drop(desk, words):
    row = held_row(words)
    if row not in desk.held:
        raise NoHeld("this row is not held")
    desk.held.pop(row)
    return "ok"


def held_row(words):
    return (words[0], tuple(words[1:]))


def asked(desk, name):
    if name not in desk.questions:
        raise NoAsk(f"no question is called {name}")
    return desk.questions[name]


def told_within(desk, words):
    one = asked(desk, words[0])
    return within(one, asked(desk, words[1]))[0]


def told_least(desk, words):
    return shown(least(asked(desk, words[0]))[0])


def told_candidates(desk, words):
    found = candidates(views_of(desk), asked(desk, words[0]))
    return listed([" ".join([name] + list(terms)) for name, terms in found])


def told_rewrite(desk, words):
    told = rewritten(views_of(desk), asked(desk, words[0]))
    return "whole " + shown(told[1]) if told[0] == "whole" else told[0]


def told_ways(desk, words):
    return str(len(spare_ways(views_of(desk), asked(desk, words[0]))))


def told_sure(desk, words):
    rows = sure(views_of(desk), held_of(desk), asked(desk, words[0]))
    return listed([" ".join(row) if row else "yes" for row in rows])


def told_open(desk, words):
    question = asked(desk, words[0])
    return shown_sure(views_of(desk), held_of(desk), question, tuple(words[1:]))[0]


def told_unfold(desk, words):
    return shown(unfolded(views_of(desk), asked(desk, words[0])))


def views_of(desk):
    return list(desk.views.items())


def held_of(desk):
    return tables_of(list(desk.held))


def listed(texts):
    return ", ".join(texts) if texts else "none"


TEXT_ROWS = {"view": told_view, "ask": told_ask}

# With each how many words, at the fewest and at the most, stand behind the first one: names and values all of them.
WORD_ROWS = {
    "hold": (told_hold, 2, 5),
    "drop": (told_drop, 2, 5),
    "within": (told_within, 2, 2),
    "least": (told_least, 1, 1),
    "candidates": (told_candidates, 1, 1),
    "rewrite": (told_rewrite, 1, 1),
    "ways": (told_ways, 1, 1),
    "sure": (told_sure, 1, 1),
    "open": (told_open, 1, 5),
    "unfold": (told_unfold, 1, 1),
}


class Desk:
    def __init__(self):
        self.views = {}
        self.held = {}
        self.questions = {}

    def say(self, row):
        words = row.split(" ")
        if words[0] in TEXT_ROWS:
            return self.say_text(words)
        if words[0] in WORD_ROWS:
            return self.say_words(words)
        raise NoRow("no row begins so")

    def say_text(self, words):
        if len(words) < 3 or not is_value(words[1]):
            raise NoRow("behind the first word a name is wanted, a blank and a text")
        return TEXT_ROWS[words[0]](self, words[1], " ".join(words[2:]))

    def say_words(self, words):
        told, fewest, most = WORD_ROWS[words[0]]
        if not fewest <= len(words) - 1 <= most or not all([is_value(word) for word in words[1:]]):
            raise NoRow("not as many words as are wanted, or one that is no name or value")
        return told(self, words[1:])
