"""What the files of tests share: plain things to put at each place, questions and tables by chance, and what the
document says of maps, answers and told things, said again as plainly as can be."""

import itertools
import reprlib
import unittest

from askviews.terms import is_unknown


class Truths(unittest.TestCase):
    def tells(self, told, expected, thing):
        # repr itself fails of the deep things.
        with self.subTest(thing=reprlib.repr(thing)):
            self.assertIs(told, expected)


def no_texts():
    return [
        0, 1, -1, 10 ** 40, True, False, None,
        [], ["a"], ["?x"], (), ("a",), ("?x",), {}, {"a": "a"}, {"?x": True},
        [["a"]], (("a",),), [None], (None,), {"a": [("b", {})]},
    ]


def deep_things():
    deep_tuple = ()
    deep_list = []
    deep_dict = {}
    for unused in range(3000):
        deep_tuple = ("a", deep_tuple)
        deep_list = [deep_list]
        deep_dict = {"a": deep_dict}
    return [deep_tuple, deep_list, deep_dict]


def unknowns_plainly(question):
    return sorted(set([term for name, terms in question[1] for term in terms if term[0] == "?"]))


def values_of(question):
    terms = list(question[0]) + [term for name, terms in question[1] for term in terms]
    return sorted(set([term for term in terms if term[0] != "?"]))


def counted_plainly(question, tables):
    """As 10 says it: every map to any values is tried."""
    head, atoms = question
    values = sorted(set([value for rows in tables.values() for row in rows for value in row]))
    unknowns = unknowns_plainly(question)
    counts = {}
    for chosen in itertools.product(values, repeat=len(unknowns)):
        given = dict(zip(unknowns, chosen))
        images = [(name, tuple([given.get(term, term) for term in terms])) for name, terms in atoms]
        if all([row in tables.get(name, []) for name, row in images]):
            answer = tuple([given.get(term, term) for term in head])
            counts[answer] = counts.get(answer, 0) + 1
    return sorted(counts.items())


def answers_plainly(question, tables):
    return [row for row, count in counted_plainly(question, tables)]


def is_map_plainly(one, other, pairs):
    """As 11 says it, each of its words by itself."""
    terms_of_one = set(one[0]) | set([term for name, terms in one[1] for term in terms])
    given = dict(pairs)
    just_the_unknowns = [unknown for unknown, term in pairs] == unknowns_plainly(other)
    terms_of_the_one = all([term in terms_of_one for unknown, term in pairs])
    the_head = [given.get(term, term) for term in other[0]] == list(one[0])
    images = [[name] + [given.get(term, term) for term in terms] for name, terms in other[1]]
    each_atom = all([image in [[name] + list(terms) for name, terms in one[1]] for image in images])
    return just_the_unknowns and terms_of_the_one and the_head and each_atom


def maps_plainly(one, other):
    """All maps from the other one to the one: every way to give terms is tried."""
    terms = sorted(set([term for name, terms in one[1] for term in terms]))
    unknowns = unknowns_plainly(other)
    tried = [list(zip(unknowns, chosen)) for chosen in itertools.product(terms, repeat=len(unknowns))]
    return [pairs for pairs in tried if is_map_plainly(one, other, pairs)]


def has_map_plainly(one, other):
    """Whether there is a map from the other one to the one: each atom in its order, to each atom of the one."""
    def fitted(given, terms, aim):
        longer = dict(given)
        right = [longer.setdefault(term, aimed) == aimed if term[0] == "?" else term == aimed
                 for term, aimed in zip(terms, aim)]
        return longer if len(terms) == len(aim) and all(right) else None

    def goes_on(atoms, given):
        if given is None or not atoms:
            return given is not None
        name, terms = atoms[0]
        return any(goes_on(atoms[1:], fitted(given, terms, aim)) for table, aim in one[1] if table == name)

    return goes_on(other[1], fitted({}, other[0], one[0]))


def same_plainly(one, other):
    return has_map_plainly(one, other) and has_map_plainly(other, one)


def is_answer_plainly(question, tables, row):
    """As 10 says it: some map leads the head to this row, and each atom to a row of the tables."""
    rows = tuple([(name, held) for name in tables for held in sorted(set(tables[name]))])
    return has_map_plainly((row, rows), question)


def is_unfolded_plainly(views, question, told):
    """As 17 says it, of what was told as the question unfolded."""
    if type(told) is not tuple or [type(part) for part in told] != [tuple, tuple] or told[0] != question[0]:
        return False
    left = list(told[1])
    earlier = unknowns_plainly(question)
    for name, terms in question[1]:
        head, atoms = dict(views)[name]
        given = dict(zip(head, terms))
        for table, held in atoms:
            if not left or type(left[0]) is not tuple or type(left[0][1]) is not tuple:
                return False
            told_table, told_terms = left.pop(0)
            right = [given.setdefault(term, told_term) == told_term if term[0] == "?" else term == told_term
                     for term, told_term in zip(held, told_terms)]
            if told_table != table or len(told_terms) != len(held) or not all(right):
                return False
        fresh = [given[unknown] for unknown in given if unknown not in head]
        if len(set(fresh + earlier)) < len(fresh) + len(earlier) or not all([is_unknown(term) for term in fresh]):
            return False
        earlier = earlier + fresh
    return left == []


def unfolded_plainly(views, question):
    """As 17 says it, with names of new unknowns that no test uses elsewhere."""
    atoms = []
    for place, (name, terms) in enumerate(question[1]):
        head, held_atoms = dict(views)[name]
        given = dict(zip(head, terms))
        for table, held in held_atoms:
            for term in held:
                if term[0] == "?":
                    given.setdefault(term, "?z" + str(place) + "z" + term[1:])
            atoms.append((table, tuple([given.get(term, term) for term in held])))
    return (question[0], tuple(atoms))


def are_told_tables(tables):
    """As 8 says it of tables that are told."""
    if type(tables) is not dict:
        return False
    return all([type(name) is str and type(rows) is list and len(rows) > 0 and rows == sorted(set(rows))
                and all([type(row) is tuple for row in rows]) for name, rows in tables.items()])


def holders(thing):
    """All lists and dicts in what is told, one that stands at two places twice."""
    inner = list(thing.values()) if isinstance(thing, dict) else thing if isinstance(thing, (list, tuple)) else []
    found = [thing] if isinstance(thing, (list, dict)) else []
    for held in inner:
        found.extend(holders(held))
    return found


def spoil(thing):
    """Changes whatever can be changed in what is told."""
    for held in holders(thing):
        if isinstance(held, list):
            held.append("spoilt")
            held[0] = None
        else:
            held["spoilt"] = None


def some_atoms(chance, names, terms, fewest, most, longest):
    atoms = []
    for unused in range(chance.randrange(fewest, most + 1)):
        length = chance.randrange(1, longest + 1)
        atoms.append((chance.choice(names), tuple([chance.choice(terms) for unused in range(length)])))
    return tuple(atoms)


def some_question(chance, names, terms, fewest, most, longest, longest_head):
    atoms = some_atoms(chance, names, terms, fewest, most, longest)
    heads = unknowns_plainly(((), atoms)) * 2 + [term for term in terms if term[0] != "?"][:1]
    length = chance.randrange(longest_head + 1) if heads else 0
    return (tuple([chance.choice(heads) for unused in range(length)]), atoms)


def some_views(chance, called, names, terms, most, longest):
    """One view at most for each letter that it may be called by."""
    views = []
    for name in called:
        atoms = some_atoms(chance, names, terms, 1, most, longest)
        unknowns = unknowns_plainly(((), atoms))
        if unknowns:
            length = chance.randrange(1, min(len(unknowns), 4) + 1)
            views.append((name, (tuple(chance.sample(unknowns, length)), atoms)))
    return views


def some_tables(chance, names, values, most, longest):
    tables = {}
    for name in names:
        rows = []
        for unused in range(chance.randrange(most + 1)):
            rows.append(tuple([chance.choice(values) for unused in range(chance.randrange(1, longest + 1))]))
        tables[name] = rows
    return tables
