"""Questions as texts: words parted by single blanks."""

from askviews.errors import Loose, NoText
from askviews.questions import MOST_ATOMS, loose_unknowns
from askviews.terms import MOST_TERMS, is_term, is_value


def shown(question):
    words = list(question[0]) + [":"]
    for place, atom in enumerate(question[1]):
        if place > 0:
            words.append(",")
        words.append(atom[0])
        words.extend(atom[1])
    return " ".join(words)


def read(text):
    words = text.split(" ")
    head = read_head(words)
    question = (head, read_atoms(words, len(head) + 1))
    loose = loose_unknowns(question)
    if loose:
        raise Loose(loose[0])
    return question


# Where words lack, the number that is told is how many there are: just the place where the next one would stand.


def read_head(words):
    for at, word in enumerate(words):
        if word == ":":
            return tuple(words[:at])
        if at == MOST_TERMS or not is_term(word):
            raise NoText(at)
    raise NoText(len(words))


def read_atoms(words, at):
    atoms = []
    while True:
        atom = read_atom(words, at)
        atoms.append(atom)
        at += 1 + len(atom[1])
        if at == len(words):
            return tuple(atoms)
        if words[at] != "," or len(atoms) == MOST_ATOMS:
            raise NoText(at)
        at += 1


def read_atom(words, at):
    if at == len(words) or not is_value(words[at]):
        raise NoText(at)
    first = at + 1
    end = first
    while end < len(words) and end - first < MOST_TERMS and is_term(words[end]):
        end += 1
    if end == first:
        raise NoText(first)
    return (words[at], tuple(words[first:end]))
