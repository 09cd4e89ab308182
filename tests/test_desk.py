import itertools
import random
import unittest

from askviews.answers import answers
from askviews.desk import Desk
from askviews.errors import AskError, Loose, NoAsk, NoHeld, NoRow, NoText, NoView, TooMany, Twice
from askviews.least import least
from askviews.questiontexts import read, shown
from askviews.rewriting import candidates, rewritten, spare_ways
from askviews.sure import shown_sure, sure
from askviews.within import within
from tests.helping import is_unfolded_plainly, same_plainly, some_question, some_views

TOLD = (
    "view v ?x ?y : r ?x ?z , s ?z ?y",
    "view w ?x : r ?x ?y",
    "view u ?x ?y : s ?y ?x",
    "ask q ?x : r ?x ?y , s ?y ?z",
    "ask p ?x : r ?x ?y",
    "ask all : v ?x ?y , w ?y",
    "ask b : s ?x ?y",
    "ask t ?x : t ?x",
    "ask double ?x : r ?x ?y , r ?x ?z",
    "hold v 1 2",
    "hold w 3",
)
# Rows that keep nothing: what they answer tells what a desk keeps.
ASKED = ("within q p", "within p q", "least double", "candidates q", "candidates t", "rewrite q", "rewrite t",
         "rewrite b", "ways q", "ways t", "sure q", "sure p", "sure b", "sure t", "open p 1", "open p 2", "open b",
         "unfold all", "open v 1", "within v w", "sure v", "sure x", "candidates v", "candidates w", "candidates u",
         "open p 3", "sure double", "candidates p", "candidates x")
COMMANDS = ("view", "ask", "hold", "drop", "within", "least", "candidates", "rewrite", "ways", "sure", "open", "unfold")
NO_NAMES = ("", "A", "?x", "?", "abcdefghi", "a-b", ":", ",", "a:", "a,", "-", ".", "~", "!", "a?", "'a'", "_")


def desk_told(rows):
    desk = Desk()
    for row in rows:
        desk.say(row)
    return desk


def told_or_refused(desk, row):
    try:
        return desk.say(row)
    except AskError as error:
        return (type(error), vars(error))


def state_of(desk):
    """All that a desk answers to rows that keep nothing, and whether each row is held."""
    return [told_or_refused(desk, row) for row in ASKED]


class AtADesk(unittest.TestCase):
    def tells(self, desk, row, expected):
        with self.subTest(row=row):
            told = desk.say(row)
            self.assertIs(type(told), str)
            self.assertEqual(told, expected)

    def refused(self, desk, row, kind, field=None, value=None):
        """It is refused so, whatever is said behind it, and the desk is as it was."""
        with self.subTest(row=row):
            before = state_of(desk)
            for unused in range(2):
                with self.assertRaises(AskError) as caught:
                    desk.say(row)
                self.assertIs(type(caught.exception), kind)
                if field is not None:
                    self.assertEqual(getattr(caught.exception, field), value)
                    self.assertIs(type(getattr(caught.exception, field)), type(value))
            self.assertEqual(state_of(desk), before)


class Promise24View(AtADesk):
    def test_a_view_is_kept(self):
        desk = Desk()
        self.tells(desk, "ask q ?a : r ?a ?b", "ok")
        self.tells(desk, "candidates q", "none")
        self.tells(desk, "view v ?x ?y : r ?x ?y", "ok")
        self.tells(desk, "candidates q", "v ?a ?b")
        self.tells(desk, "view abcdefgh ?y : r ?x ?y", "ok")
        self.tells(desk, "view 0 ?x : r ?x ?y", "ok")
        self.tells(desk, "candidates q", "v ?a ?b, abcdefgh ?b, 0 ?a")

    def test_twice(self):
        desk = desk_told(TOLD)
        for text in ("?x : r ?x", "?x ?y : r ?x ?z , s ?z ?y", "", "zz", ": r ?x", "?a : r ?b", "a : r a", " "):
            for name in ("v", "w", "u"):
                self.refused(desk, "view " + name + " " + text, Twice)

    def test_no_text(self):
        desk = desk_told(TOLD)
        for text, at in (("", 0), (" ", 0), ("?x", 1), ("?x :", 2), ("?x : r", 3), ("?x : r ?x ,", 5),
                         ("?x : r  ?x", 3), (" ?x : r ?x", 0), ("?x : r ?x ", 4), (": r ?X", 2),
                         ("?x : : r ?x", 2), ("v ?x : r ?x v :", 6),
                         ("?x ?y ?z ?u ?v : r ?x", 4), (": r ?x , , s ?x", 4), (": " + "r ?x , " * 8 + "r ?x", 24)):
            self.refused(desk, "view new " + text, NoText, "at", at)
            self.refused(desk, "ask new " + text, NoText, "at", at)

    def test_loose(self):
        desk = desk_told(TOLD)
        for text, unknown in (("?x : r ?y", "?x"), ("?y ?x : r ?y", "?x"), ("?b ?a : r ?y", "?b"),
                              ("a ?b ?b : r a", "?b")):
            self.refused(desk, "view new " + text, Loose, "unknown", unknown)
            self.refused(desk, "ask new " + text, Loose, "unknown", unknown)

    def test_a_head_that_is_no_views(self):
        desk = desk_told(TOLD)
        for text in (": r ?x", "a : r ?x", "?x a : r ?x", "?x ?x : r ?x", "?x ?y ?x : r ?x ?y", "a : r a"):
            self.refused(desk, "view new " + text, NoView, "place", 0)
            self.tells(desk_told(TOLD), "ask new " + text, "ok")

    def test_the_first_of_several_faults(self):
        desk = desk_told(TOLD)
        self.refused(desk, "view V zz", NoRow)
        self.refused(desk, "view v zz", Twice)
        self.refused(desk, "view v ?x : r ?y", Twice)
        self.refused(desk, "view v : r ?y", Twice)
        self.refused(desk, "view x ?a ?a : r ?b ,", NoText, "at", 6)
        self.refused(desk, "view x ?a ?a : r ?b", Loose, "unknown", "?a")
        self.refused(desk, "view x ?a ?a : r ?a", NoView, "place", 0)
        self.refused(desk, "ask Q zz", NoRow)
        self.refused(desk, "ask q zz", Twice)
        self.refused(desk, "ask q ?x : r ?y", Twice)
        self.refused(desk, "ask x ?a : r ?b ,", NoText, "at", 5)

    def test_a_name_that_was_refused_is_free(self):
        desk = Desk()
        for row, kind in (("view v ?x", NoText), ("view v ?x : r ?y", Loose), ("view v : r ?y", NoView),
                          ("ask v ?x", NoText), ("ask v ?x : r ?y", Loose)):
            self.refused(desk, row, kind)
        self.tells(desk, "view v ?x : r ?x", "ok")
        self.tells(desk, "ask v ?x : r ?x", "ok")
        self.tells(desk, "rewrite v", "whole ?x : v ?x")

    def test_no_blank_behind_the_name(self):
        desk = desk_told(TOLD)
        for row in ("view", "view ", "view new", "view v", "view  ", "view  ?x : r ?x", "ask", "ask ", "ask new",
                    "ask q",
                    "ask  ", "ask  ?x : r ?x"):
            self.refused(desk, row, NoRow)
        self.refused(desk, "view new ", NoText, "at", 0)
        self.refused(desk, "ask new ", NoText, "at", 0)
        self.refused(desk, "view v ", Twice)
        self.refused(desk, "ask q ", Twice)

    def test_no_names(self):
        desk = desk_told(TOLD)
        for name in NO_NAMES:
            for text in ("?x : r ?x", "", "zz", ": r ?x", "?x : r ?y"):
                self.refused(desk, "view " + name + " " + text, NoRow)
                self.refused(desk, "ask " + name + " " + text, NoRow)


class Promise24Ask(AtADesk):
    def test_a_question_is_kept(self):
        desk = Desk()
        for name, text in (("q", "?x a : r ?x ?y , s ?y a"), ("0", ": r ?x"), ("abcdefgh", "a : r ?x"),
                           ("ask", "?x : r ?x"),
                           ("view", "?x ?x ?x ?x : r ?x")):
            self.refused(desk, "least " + name, NoAsk)
            self.tells(desk, "ask " + name + " " + text, "ok")
            self.tells(desk, "least " + name, text)

    def test_twice(self):
        desk = desk_told(TOLD)
        for text in ("?x : r ?x", "?x : r ?x ?y", "", "zz", "?a : r ?b"):
            for name in ("q", "p", "all", "b", "t", "double"):
                self.refused(desk, "ask " + name + " " + text, Twice)

    def test_names_of_views_and_of_questions_may_be_alike(self):
        desk = desk_told(TOLD)
        self.tells(desk, "ask v ?x : r ?x ?y", "ok")
        self.tells(desk, "view q ?x : s ?x ?y", "ok")
        self.refused(desk, "ask v ?x : r ?x ?y", Twice)
        self.refused(desk, "view q ?x : r ?x ?y", Twice)
        self.tells(desk, "candidates v", "w ?x")
        self.tells(desk, "candidates q", "v ?x ?z, w ?x, u ?z ?y, q ?y")


class Promise24Hold(AtADesk):
    def test_a_row_is_held_and_dropped(self):
        desk = desk_told(TOLD)
        self.tells(desk, "sure p", "1, 3")
        self.tells(desk, "hold w 2", "ok")
        self.tells(desk, "hold w 2", "ok")
        self.tells(desk, "sure p", "1, 2, 3")
        self.tells(desk, "drop w 2", "ok")
        self.tells(desk, "sure p", "1, 3")
        self.refused(desk, "drop w 2", NoHeld)
        self.tells(desk, "drop v 1 2", "ok")
        self.tells(desk, "drop w 3", "ok")
        self.tells(desk, "sure p", "none")
        self.tells(desk, "hold w 3", "ok")
        self.tells(desk, "sure p", "3")

    def test_no_view_of_this_length(self):
        desk = desk_told(TOLD)
        for row in ("hold v 1", "hold v 1 2 3", "hold v 1 2 3 4", "hold w 1 2", "hold x 1", "hold x 1 2", "hold q 1",
                    "hold r 1 2", "hold u 1"):
            self.refused(desk, row, NoView, "place", 0)
        self.refused(Desk(), "hold v 1", NoView, "place", 0)

    def test_rows_of_each_length(self):
        desk = desk_told(["view v1 ?a : r ?a ?b ?c ?d", "view v2 ?a ?b : r ?a ?b ?c ?d",
                          "view v3 ?a ?b ?c : r ?a ?b ?c ?d",
                          "view v4 ?a ?b ?c ?d : r ?a ?b ?c ?d", "ask q ?a : r ?a ?b ?c ?d",
                          "ask all ?a ?b ?c ?d : r ?a ?b ?c ?d"])
        for length in range(1, 5):
            row = " v" + str(length) + " " + " ".join(["x" + str(length)] * length)
            self.refused(desk, "drop" + row, NoHeld)
            self.tells(desk, "hold" + row, "ok")
        self.tells(desk, "sure q", "x1, x2, x3, x4")
        self.tells(desk, "sure all", "x4 x4 x4 x4")
        for length in range(1, 5):
            row = " v" + str(length) + " " + " ".join(["x" + str(length)] * length)
            self.tells(desk, "drop" + row, "ok")
            self.refused(desk, "drop" + row, NoHeld)
        self.tells(desk, "sure q", "none")

    def test_not_held_whatever_the_name(self):
        desk = desk_told(TOLD)
        for row in ("drop v 2 1", "drop v 1", "drop v 1 2 3", "drop w 1", "drop x 1", "drop x 1 2 3 4", "drop q 1",
                    "drop w 33",
                    "drop u 1 2", "drop w 3 3", "drop v 1 3"):
            self.refused(desk, row, NoHeld)
        self.refused(Desk(), "drop v 1", NoHeld)

    def test_wrong_words(self):
        desk = desk_told(TOLD)
        for command in ("hold", "drop"):
            for words in ("", " ", " w", " w ", " v", " w  3", " w 3 ", "  w 3", " w 1 2 3 4 5", " v 1 2 3 4 5",
                          " x 1 2 3 4 5"):
                self.refused(desk, command + words, NoRow)
            for wrong in NO_NAMES:
                self.refused(desk, command + " " + wrong + " 3", NoRow)
                self.refused(desk, command + " w " + wrong, NoRow)
                for place in range(4):
                    values = ["1", "2", "3", "4"]
                    values[place] = wrong
                    self.refused(desk, command + " x " + " ".join(values), NoRow)


class Promise24Asked(AtADesk):
    def test_within(self):
        desk = desk_told(TOLD)
        self.tells(desk, "within q p", "within")
        self.tells(desk, "within p q", "parted")
        self.tells(desk, "within p double", "within")
        self.tells(desk, "within double p", "within")
        self.tells(desk, "within q q", "within")
        self.tells(desk, "within q b", "parted")

    def test_least(self):
        desk = desk_told(TOLD)
        self.tells(desk, "least q", "?x : r ?x ?y , s ?y ?z")
        self.assertIn(desk.say("least double"), ("?x : r ?x ?y", "?x : r ?x ?z"))
        self.tells(desk, "least b", ": s ?x ?y")

    def test_candidates(self):
        desk = desk_told(TOLD)
        self.tells(desk, "candidates q", "v ?x ?z, w ?x, u ?z ?y")
        self.tells(desk, "candidates p", "w ?x")
        self.tells(desk, "candidates t", "none")
        self.tells(desk, "ask many : r a ?x , r ?x b , r b a", "ok")
        self.tells(desk, "candidates many", "w ?x, w a, w b")
        self.tells(Desk(), "ask q : r a", "ok")

    def test_rewrite(self):
        desk = desk_told(TOLD)
        self.tells(desk, "rewrite q", "whole ?x : v ?x ?z")
        self.tells(desk, "rewrite p", "whole ?x : w ?x")
        self.tells(desk, "rewrite b", "whole : u ?y ?x")
        self.tells(desk, "rewrite t", "loose")
        self.tells(desk, "ask short ?x : r ?x ?x", "ok")
        self.tells(desk, "rewrite short", "short")
        self.tells(desk, "ask two ?x a : s ?x a , s a ?y", "ok")
        self.tells(desk, "rewrite two", "whole ?x a : u ?y a , u a ?x")

    def test_ways(self):
        desk = desk_told(TOLD)
        self.tells(desk, "ways q", "1")
        self.tells(desk, "ways t", "0")
        self.tells(desk, "view w2 ?x : r ?x ?y", "ok")
        self.tells(desk, "ways p", "2")
        self.tells(desk, "ask many : " + " , ".join(["r ?" + str(number) + " a" for number in range(5)]), "ok")
        self.tells(desk, "ways many", "0")
        self.tells(desk, "ask ten : " + " , ".join(["r ?" + str(number) + " ?z" + str(number) for number in range(5)]),
                   "ok")
        self.tells(desk, "ways ten", "10")

    def test_too_many(self):
        desk = desk_told(TOLD + ("view w2 ?x : r ?x ?y",))
        atoms = " , ".join(["r ?" + str(number) + " ?z" + str(number) for number in range(6)])
        self.tells(desk, "ask many : " + atoms, "ok")
        self.tells(desk, "ask free ?u : " + atoms + " , t ?u", "ok")
        for name in ("many", "free"):
            self.refused(desk, "rewrite " + name, TooMany)
            self.refused(desk, "ways " + name, TooMany)
            self.assertEqual(desk.say("candidates " + name).count(","), 11)

    def test_sure(self):
        desk = desk_told(TOLD)
        self.tells(desk, "sure q", "1")
        self.tells(desk, "sure p", "1, 3")
        self.tells(desk, "sure b", "yes")
        self.tells(desk, "sure t", "none")
        self.tells(desk, "ask pairs ?x ?y : r ?x ?z , s ?z ?y", "ok")
        self.tells(desk, "hold v 0 7", "ok")
        self.tells(desk, "sure pairs", "0 7, 1 2")
        self.tells(desk, "ask no : s 9 ?y", "ok")
        self.tells(desk, "sure no", "none")

    def test_open(self):
        desk = desk_told(TOLD)
        self.tells(desk, "open q 1", "sure")
        self.tells(desk, "open q 2", "open")
        self.tells(desk, "open b", "sure")
        self.tells(desk, "open b 1", "open")
        self.tells(desk, "open q", "open")
        self.tells(desk, "open q 1 1", "open")
        self.tells(desk, "open q 1 1 1 1", "open")
        self.tells(desk, "open t 1", "open")
        self.tells(desk, "ask no : s 9 ?y", "ok")
        self.tells(desk, "open no", "open")
        self.tells(desk, "ask four ?x ?x ?x ?x : r ?x ?y", "ok")
        self.tells(desk, "open four 1 1 1 1", "sure")
        self.tells(desk, "open four 1 1 1 3", "open")

    def test_unfold(self):
        desk = desk_told(TOLD)
        self.tells(desk, "ask over ?a : u ?a k , u k ?a", "ok")
        self.tells(desk, "unfold over", "?a : s k ?a , s ?a k")
        views = [(name, read(text)) for name, text in [row[5:].split(" ", 1) for row in TOLD if row.startswith("view")]]
        told = read(desk.say("unfold all"))
        self.assertTrue(is_unfolded_plainly(views, read(": v ?x ?y , w ?y"), told), told)
        self.refused(desk, "unfold q", NoView, "place", 0)
        self.tells(desk, "ask half : v ?x ?y , w ?x ?y , x ?y", "ok")
        self.refused(desk, "unfold half", NoView, "place", 1)
        self.tells(desk, "ask last : w ?x , w ?y , r ?y ?x", "ok")
        self.refused(desk, "unfold last", NoView, "place", 2)

    def test_more_than_eight_atoms_unfolded(self):
        desk = desk_told(["view v ?x : r ?x ?y , r ?y ?z , r ?z ?u , r ?u ?x",
                          "ask q ?a : " + " , ".join(["v ?a"] * 8)])
        told = desk.say("unfold q").split(" , ")
        self.assertEqual(len(told), 32)

    def test_names_of_no_question(self):
        desk = desk_told(TOLD)
        for command in ("least", "candidates", "rewrite", "ways", "sure", "open", "unfold"):
            for name in ("x", "v", "w", "r", "qq", "abcdefgh"):
                self.refused(desk, command + " " + name, NoAsk)
        for names in ("x q", "q x", "x x", "v w", "q v"):
            self.refused(desk, "within " + names, NoAsk)
        for words in ("x 1", "x 1 2 3 4", "v 1 2"):
            self.refused(desk, "open " + words, NoAsk)

    def test_names_of_no_question_ahead_of_what_the_points_refuse(self):
        desk = desk_told(TOLD + ("view w2 ?x : r ?x ?y",))
        for command in ("unfold x", "rewrite x", "ways x"):
            self.refused(desk, command, NoAsk)

    def test_wrong_counts_of_words(self):
        desk = desk_told(TOLD)
        for command in ("least", "candidates", "rewrite", "ways", "sure", "unfold"):
            for words in ("", " ", " q p", " q ", "  q", " q q q", " x y"):
                self.refused(desk, command + words, NoRow)
        for words in ("", " ", " q", " q ", " q p b", " q  p", " q p ", " x", " x x x"):
            self.refused(desk, "within" + words, NoRow)
        for words in ("", " ", " q 1 2 3 4 5", " q ", " q  1", " q 1 ", " x 1 2 3 4 5"):
            self.refused(desk, "open" + words, NoRow)

    def test_wrong_names_and_values(self):
        desk = desk_told(TOLD)
        for wrong in NO_NAMES:
            for command in ("least", "candidates", "rewrite", "ways", "sure", "unfold", "open"):
                self.refused(desk, command + " " + wrong, NoRow)
            for names in (wrong + " q", "q " + wrong, wrong + " " + wrong, "x " + wrong, wrong + " x"):
                self.refused(desk, "within " + names, NoRow)
            for place in range(5):
                words = ["x", "1", "2", "3", "4"]
                words[place] = wrong
                self.refused(desk, "open " + " ".join(words), NoRow)

    def test_first_words_that_are_none(self):
        desk = desk_told(TOLD)
        for command in COMMANDS:
            for wrong in (command.upper(), command + "s", command[:-1], " " + command, command + ":", "x" + command):
                for words in ("", " q", " q p", " v 1 2", " new ?x : r ?x"):
                    self.refused(desk, wrong + words, NoRow)
        for row in ("", " ", "  ", "q", "v 1 2", "?x : r ?x", ": r ?x", "seen q", "fits q", "same q p", "answers q",
                    "views",
                    "ok", "none", "~", "!", "say sure q"):
            self.refused(desk, row, NoRow)


class Promise24Whole(AtADesk):
    def test_a_fresh_desk_has_nothing(self):
        for name in ("q", "v"):
            self.refused(Desk(), "sure " + name, NoAsk)
            self.refused(Desk(), "drop " + name + " 1", NoHeld)
            self.refused(Desk(), "hold " + name + " 1", NoView, "place", 0)

    def test_desks_have_nothing_in_common(self):
        first, second = desk_told(TOLD), Desk()
        before = state_of(first)
        self.refused(second, "sure q", NoAsk)
        self.refused(second, "drop v 1 2", NoHeld)
        for row in ("view v ?x : t ?x", "ask q ?x : t ?x", "hold v 9"):
            self.tells(second, row, "ok")
        self.tells(second, "sure q", "9")
        self.assertEqual(state_of(first), before)

    def test_rows_that_keep_nothing_change_nothing(self):
        desk = desk_told(TOLD)
        before = state_of(desk)
        for row in ASKED + ASKED[::-1]:
            told_or_refused(desk, row)
        self.assertEqual(state_of(desk), before)
        self.assertEqual(state_of(desk_told(TOLD)), before)

    def test_rows_of_the_whole_program(self):
        """What a desk answers is what the functions tell, of views, held rows and questions by chance."""
        chance = random.Random(24)
        answered = {}
        for unused in range(150):
            views = some_views(chance, "vrw", "rs", ["?x", "?y", "?z", "1"], 2, 2)
            questions = {name: some_question(chance, "rs", ["?x", "?y", "?u", "1"], 1, 3, 2, 2) for name in ("q", "v")}
            desk = Desk()
            for name, view in views:
                self.tells(desk, "view " + name + " " + shown(view), "ok")
            for name, question in questions.items():
                self.tells(desk, "ask " + name + " " + shown(question), "ok")
            held = {}
            for name, view in views:
                held[name] = [tuple([chance.choice("123") for unused in view[0]])
                              for unused in range(chance.randrange(4))]
                for row in held[name]:
                    self.tells(desk, "hold " + name + " " + " ".join(row), "ok")
            for name, question in questions.items():
                self.check_answers(desk, views, held, name, question, answered)
            self.tells(desk, "within q v", within(questions["q"], questions["v"])[0])
        self.assertGreater(min([answered[kind] for kind in ("whole", "loose", "short", "sure", "open")]), 10)

    def check_answers(self, desk, views, held, name, question, answered):
        form = read(desk.say("least " + name))
        self.assertTrue(same_plainly(form, question))
        self.assertEqual(len(form[1]), len(least(question)[0][1]))
        found = candidates(views, question)
        texts = [" ".join([called] + list(terms)) for called, terms in found]
        self.tells(desk, "candidates " + name, ", ".join(texts) or "none")
        if len(found) > 10:
            return
        told = rewritten(views, question)
        answered[told[0]] = answered.get(told[0], 0) + 1
        said = desk.say("rewrite " + name)
        self.assertEqual(said.split(" ")[0], told[0])
        if told[0] == "whole":
            self.assertEqual(len(read(said[6:])[1]), len(told[1][1]))
        self.tells(desk, "ways " + name, str(len(spare_ways(views, question))))
        rows = sure(views, held, question)
        self.tells(desk, "sure " + name, ", ".join([" ".join(row) or "yes" for row in rows]) or "none")
        for row in list(itertools.product("12", repeat=len(question[0])))[:3] + rows[:2]:
            expected = shown_sure(views, held, question, row)[0]
            answered[expected] = answered.get(expected, 0) + 1
            self.tells(desk, " ".join(("open", name) + row), expected)

    def test_a_rewriting_tells_just_the_answers(self):
        desk = desk_told(TOLD)
        self.assertEqual(answers(read(desk.say("rewrite q")[6:]), {"v": [("1", "2")], "w": [("1",), ("3",)]}), [("1",)])


if __name__ == "__main__":
    unittest.main()
