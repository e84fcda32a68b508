"""A desk: terms kept by names, told and asked by lines."""

from castwright.errors import BadNote
from castwright.errors import BadUse
from castwright.kindnotes import written
from castwright.kinds import is_name
from castwright.runs import outcome
from castwright.serving import lack_of
from castwright.termnotes import term_read
from castwright.termnotes import term_shown
from castwright.terms import judged

FUEL = 100
# How many names stand behind the first word of a line; `keep` has a form of its own.
NAMES_BEHIND = {"drop": 1, "show": 1, "names": 0, "kind": 1, "serves": 2, "run": 1}


class Desk:
    def __init__(self):
        self.terms = {}

    def say(self, line):
        # No more than two blanks part a line: a term is written with blanks of its own.
        words = line.split(" ", 2)
        if words[0] == "keep" and len(words) == 3:
            return self.keep(words[1], words[2])
        if not is_line(words):
            return "bad line"
        if words[0] == "names":
            return " ".join(sorted(self.terms)) if len(self.terms) > 0 else "none"
        if not all([name in self.terms for name in words[1:]]):
            return "no such name"
        if words[0] == "drop":
            self.terms.pop(words[1])
            return "dropped"
        return answer(words[0], [self.terms[name] for name in words[1:]])

    def keep(self, name, text):
        if not is_name(name):
            return "bad line"
        try:
            term = term_read(text)
        except BadNote:
            return "bad line"
        self.terms[name] = term
        return "kept"

    def all_terms(self):
        return dict(self.terms)


def is_line(words):
    if len(words) - 1 != NAMES_BEHIND.get(words[0]):
        return False
    return all([is_name(word) for word in words[1:]])


def answer(word, terms):
    if word == "show":
        return term_shown(terms[0])
    try:
        if word == "kind":
            return written(judged(terms[0]))
        if word == "serves":
            return serving_written(judged(terms[0]), judged(terms[1]))
        return outcome_written(outcome(terms[0], FUEL))
    except BadUse as e:
        return "bad use" + path_written(e.path)


# Judged kinds may go beyond the bounds of kinds that are handed in.
def serving_written(one, other):
    lack = lack_of(one, other)
    return "yes" if lack is None else "no" + path_written(lack)


def outcome_written(found):
    if found[0] == "value":
        return "value " + told_written(found[1])
    if found[0] == "blame":
        return "blame " + found[2] + path_written(found[1])
    return found[0]


def path_written(path):
    return "" if path == () else " at " + " ".join([str(step) for step in path])


def told_written(told):
    if isinstance(told, bool):
        return "yes" if told else "no"
    if isinstance(told, int):
        return str(told)
    if told in (("fun",), ("box",)):
        return told[0]
    return "{" + ", ".join([name + ": " + told_written(inner) for name, inner in told]) + "}"
