"""Journals: the history of a store as a text, and a store from its text."""

from leastreads.deeds import deed_in, deed_words, do_deed
from leastreads.errors import Halted, InvalidText, LeastError, NotHalted, UnknownName
from leastreads.store import Store
from leastreads.words import is_number


def check_number(text):
    """Return the sum, over the characters of a text, of the place of each, counted from 1, times its code."""
    return sum([(place + 1) * ord(char) for place, char in enumerate(text)])


def write_journal(store):
    """Return the journal of the history of a store."""
    lines = []
    for index, deed in enumerate(store.history()):
        words = deed_words(deed)
        check = check_number(f"{index} {words}")
        lines.append(f"{index} {check} {words}\n")
    return "".join(lines)


def is_done(store, deed):
    """Do a deed in a store; return whether it did not raise an error."""
    try:
        do_deed(store, deed)
    except (LeastError, UnknownName, Halted, NotHalted):
        return False
    return True


def fault_of(store, index, line):
    """Do the deed of a line, which has this number; return None, or what is wrong with the line."""
    words = line.split(" ")
    if len(words) < 3 or words[0] != str(index) or not is_number(words[1]):
        return "form"
    deed = deed_in(words[2:])
    if deed is None:
        return "form"
    told = " ".join([words[0], *words[2:]])
    if int(words[1]) != check_number(told):
        return "check"
    return None if is_done(store, deed) else "deed"


def read_journal(table, cost, machines, text):
    """Return (store, many, why): a new store with the deeds of the good lines, their number, and what ended them."""
    store = Store(table, cost, machines)
    if not isinstance(text, str):
        raise InvalidText(None)
    *lines, rest = text.split("\n")
    for index, line in enumerate(lines):
        why = fault_of(store, index, line)
        if why is not None:
            return (store, index, why)
    return (store, len(lines), "end" if rest == "" else "torn")
