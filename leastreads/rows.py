"""Rows of the objects of a store, and the states through which a store goes."""

from leastreads.errors import Lost, Unsure
from leastreads.ground import units_of
from leastreads.spaces import blind_for
from leastreads.stored import Stored
from leastreads.wrong import agreed
from leastreads.writes import mixed, new_wishes, old_wishes, recover


class Row:
    """What is stored in one row, and, behind a crash, which pieces the write has written.

    Without a crashed write changed and written are empty; a lost row keeps those of the write that lost it.
    """

    def __init__(self, stored, changed=(), written=(), is_lost=False):
        self.stored = stored
        self.changed = changed
        self.written = written
        self.is_lost = is_lost

    def __eq__(self, other):
        return (
            isinstance(other, Row)
            and self.stored == other.stored
            and self.changed == other.changed
            and self.written == other.written
            and self.is_lost == other.is_lost
        )

    def with_stored(self, stored):
        """Return the row with other stored pieces."""
        return Row(stored, self.changed, self.written, self.is_lost)

    def as_lost(self):
        """Return the row as a lost one."""
        return Row(self.stored, self.changed, self.written, True)


class Thing:
    """An object of a store: its placing and its rows."""

    def __init__(self, placing, rows):
        self.placing = placing
        self.rows = tuple(rows)

    def __eq__(self, other):
        return isinstance(other, Thing) and self.placing == other.placing and self.rows == other.rows

    def with_row(self, index, row):
        """Return the object with another row at an index."""
        return Thing(self.placing, (*self.rows[:index], row, *self.rows[index + 1 :]))

    def behind_loss(self, machine):
        """Return the object when a machine has broken."""
        pieces = self.placing.on(machine)
        rows = [row.with_stored(row.stored.without(pieces)) for row in self.rows]
        return Thing(self.placing.without((machine,)), rows)

    def with_piece_from(self, reads, piece, machine):
        """Return the object with a piece on a machine, as reads make it in all rows that are not lost."""
        rows = []
        for row in self.rows:
            rows.append(row if row.is_lost else row.with_stored(row.stored.bent(piece, reads(row.stored))))
        return Thing(self.placing.moved(piece, machine), rows)


class State:
    """What a store has at one time; states never change.

    Each one keeps the state before it and the deed between them; the first one has neither.
    """

    def __init__(self, before, deed, things, down, crashed):
        self.before = before
        self.deed = deed
        self.things = things
        self.down = down
        self.crashed = crashed


def crashed_row(old, new, changed, written):
    """Return the Row of a write that crashed when it had written these pieces."""
    pieces = [new.pieces[piece] if piece in written else values for piece, values in enumerate(old.pieces)]
    return Row(Stored(pieces), changed, tuple(sorted(written)))


def gone_pieces(placing):
    """Return the ascending tuple of the pieces that are gone by a placing."""
    return tuple([piece for piece, machine in enumerate(placing.where) if machine is None])


def first_blind(table, row):
    """Return the first data that show that what is wished cannot be had from a row, or None.

    The units are wished, of a lost row the new wishes.
    """
    if not row.is_lost:
        return blind_for(table.space(list(row.stored)), units_of(table))
    table_then = mixed(table, row.changed, row.written)
    return blind_for(table_then.space(list(row.stored)), new_wishes(table, row.changed))


def expect_had(table, row):
    """Raise Lost if the data of a row cannot be had."""
    blind = first_blind(table, row)
    if blind is not None:
        raise Lost(blind)


def agreed_or_none(table, stored, wishes):
    """Return what all explanations with the fewest pieces agree on, or None if they do not."""
    try:
        return agreed(table, stored, wishes)
    except Unsure:
        return None


def recovered_mending(table, row):
    """Return (word, data) of what is recovered of a row, although pieces of it may be wrong; data None with none."""
    table_then = mixed(table, row.changed, row.written)
    space = table_then.space(list(row.stored))
    pairs = [("new", new_wishes(table, row.changed)), ("old", old_wishes(table, row.changed))]
    had = [(word, wishes) for word, wishes in pairs if blind_for(space, wishes) is None]
    for word, wishes in had:
        data = agreed_or_none(table_then, row.stored, wishes)
        if data is not None:
            return (word, data)
    if len(had) > 0:
        # They do not agree, so that this raises what is found.
        agreed(table_then, row.stored, had[0][1])
    return ("none", None)


def recovered_row(table, row, mending):
    """Return (word, row): what is recovered of a row at which a write has crashed, and the row behind it."""
    if mending is True:
        word, data = recovered_mending(table, row)
    else:
        word, data = recover(table, row.changed, row.stored, row.written)
    if word == "none":
        return (word, row.as_lost())
    return (word, Row(table(data).without(row.stored.gone)))
