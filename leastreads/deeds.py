"""Deeds of a store as words of a journal, and words as deeds."""

from leastreads.basics import is_name
from leastreads.words import are_numbers, changes_in, changes_word, is_change_word, is_number, numbers_in, numbers_word

# Of what kind the words behind the first one are; put has any number of them.
KINDS = {
    "drop": ("name",),
    "write": ("name", "number", "changes", "crash"),
    "recover": ("manner",),
    "loss": ("number",),
    "renew": ("number",),
    "spoil": ("name", "number", "number", "numbers"),
    "heal": ("name", "number"),
    "rebuild": ("name", "number", "number"),
    "shift": ("name", "number", "number"),
}


def is_of_kind(kind, word):
    """Return whether a word is one of this kind."""
    if kind == "name":
        return is_name(word)
    if kind == "number":
        return is_number(word)
    if kind == "numbers":
        return are_numbers(word)
    if kind == "changes":
        return is_change_word(word)
    if kind == "crash":
        return word == "-" or is_number(word)
    return word in ("strict", "mending")


def told_by(kind, word):
    """Return what a word of this kind tells."""
    if kind == "name":
        return word
    if kind == "number":
        return int(word)
    if kind == "numbers":
        return numbers_in(word)
    if kind == "changes":
        return changes_in(word)
    if kind == "crash":
        return None if word == "-" else int(word)
    return word == "mending"


def kinds_for(words):
    """Return the kinds of the words behind the first one, or None if no deed has so many words."""
    if words[0] == "put" and len(words) > 3:
        return ("name", *["numbers" for _ in words[2:]])
    kinds = KINDS.get(words[0])
    return kinds if kinds is not None and len(kinds) == len(words) - 1 else None


def deed_in(words):
    """Return the deed that words tell, as a history tells it, or None if they are not written so."""
    kinds = kinds_for(words)
    if kinds is None or not all([is_of_kind(kind, word) for kind, word in zip(kinds, words[1:])]):
        return None
    told = [told_by(kind, word) for kind, word in zip(kinds, words[1:])]
    if words[0] == "put":
        name, where, *rows = told
        return ("put", name, tuple(rows), where)
    return (words[0], *told)


def deed_words(deed):
    """Return the words of a deed, as a history tells it, separated by spaces."""
    word, *told = deed
    if word == "put":
        name, rows, where = told
        told = [name, numbers_word(where), *[numbers_word(data) for data in rows]]
    if word == "write":
        name, row, changes, crash = told
        told = [name, row, changes_word(changes), "-" if crash is None else crash]
    if word == "recover":
        told = ["mending" if told[0] is True else "strict"]
    if word == "spoil":
        told = [*told[:3], numbers_word(told[3])]
    return " ".join([word, *[str(item) for item in told]])


def do_deed(store, deed):
    """Do a deed, as a history tells it, in a store."""
    word, *told = deed
    if word == "put":
        store.put(*told)
    if word == "drop":
        store.drop(*told)
    if word == "write":
        store.write(*told)
    if word == "recover":
        store.recover(*told)
    if word == "loss":
        store.loss(*told)
    if word == "renew":
        store.renew(*told)
    if word == "spoil":
        store.spoil(*told)
    if word == "heal":
        store.heal(*told)
    if word == "rebuild":
        store.rebuild(*told)
    if word == "shift":
        store.shift(*told)
