"""A store: objects on machines, through losses, wrong pieces and crashes."""

from leastreads.basics import has_items, is_ascending, is_between, is_integer, is_name
from leastreads.costs import expect_prices
from leastreads.errors import Halted, InvalidChange, InvalidData, InvalidName, InvalidNumber, InvalidPieces
from leastreads.errors import InvalidPlacing, InvalidStored, InvalidTable, LimitExceeded, NotHalted, NothingToUndo
from leastreads.errors import UnknownName, Unsure
from leastreads.ground import units_of
from leastreads.placings import MOST_MACHINES, Placing, fatal_machines
from leastreads.plans import Plans
from leastreads.rows import Row, State, Thing, crashed_row, expect_had, gone_pieces, recovered_row
from leastreads.sums import is_data, is_size
from leastreads.wrong import agreed, clash
from leastreads.writes import MOST_MIXED, rewritten, touched_pieces

MOST_OBJECTS = 8
MOST_ROWS = 4


def is_change(table, value):
    """Return whether any object is a tuple (index, value) for the data of a table."""
    if not isinstance(value, tuple) or len(value) != 2:
        return False
    return is_between(value[0], 0, table.size - 1) and is_between(value[1], 0, table.prime - 1)


def expect_changes(table, changes):
    """Raise InvalidChange for what is not a list or tuple of at least one change, the indexes ascending."""
    if not has_items(changes, 1, table.size) or not all([is_change(table, item) for item in changes]):
        raise InvalidChange(changes)
    if not is_ascending([index for index, _ in changes]):
        raise InvalidChange(changes)


class Trial:
    """What gives a store for one `with`, behind which the store is as it was."""

    def __init__(self, store):
        self._store = store
        self._before = None

    def __enter__(self):
        self._before = self._store._state
        return self._store

    def __exit__(self, kind, value, trace):
        self._store._state = self._before


class Store:
    """Objects under names, with rows of data, whose pieces lie on machines."""

    def __init__(self, table, cost, machines):
        if not table.is_whole:
            raise InvalidTable(None)
        expect_prices(table, cost)
        if not is_between(machines, 1, MOST_MACHINES):
            raise InvalidNumber(machines)
        self._table = table
        self._cost = cost
        self._machines = machines
        self._plans = Plans(table, cost)
        self._state = State(None, None, {}, (), None)

    @property
    def table(self):
        """The Table of all objects."""
        return self._table

    @property
    def cost(self):
        """The Prices of all reads."""
        return self._cost

    @property
    def machines(self):
        """The number of machines."""
        return self._machines

    @property
    def broken(self):
        """The ascending tuple of the broken machines."""
        return self._state.down

    @property
    def halted(self):
        """None, or the tuple (name, row) of the write that crashed."""
        return self._state.crashed

    def __len__(self):
        return len(self._state.things)

    def __iter__(self):
        raise TypeError("a store is not iterated over, its names are")

    def __contains__(self, x):
        return isinstance(x, str) and x in self._state.things

    def __getitem__(self, at):
        if not isinstance(at, str) or at not in self._state.things:
            raise UnknownName(at)
        thing = self._state.things[at]
        return (thing.placing, tuple([row.stored for row in thing.rows]))

    def __eq__(self, other):
        return (
            isinstance(other, Store)
            and self._table == other._table
            and self._cost == other._cost
            and self._machines == other._machines
            and self._state.things == other._state.things
            and self._state.down == other._state.down
            and self._state.crashed == other._state.crashed
            and self.history() == other.history()
        )

    def names(self):
        """Return the ascending list of the names."""
        return sorted(self._state.things)

    def put(self, name, rows, where):
        """Store a new object, also in the place of one."""
        self._expect_not_halted()
        if not is_name(name):
            raise InvalidName(name)
        if not has_items(rows, 1, MOST_ROWS) or not all([self._is_data(data) for data in rows]):
            raise InvalidData(rows)
        table = self._table
        if not has_items(where, len(table), len(table)) or not all([self._is_working(machine) for machine in where]):
            raise InvalidPlacing(where)
        if name not in self and len(self) == MOST_OBJECTS:
            raise LimitExceeded(MOST_OBJECTS)
        thing = Thing(Placing(self._machines, where), [Row(table(data)) for data in rows])
        deed = ("put", name, tuple([tuple(data) for data in rows]), tuple(where))
        self._change(deed, name, thing)

    def drop(self, name):
        """Take an object out of the store."""
        self._expect_object(name)
        things = {other: thing for other, thing in self._state.things.items() if other != name}
        self._go_on(("drop", name), things, self._state.down, self._state.crashed)

    def read(self, name, row):
        """Return (data, cost) of a row by the least reads; what is read is trusted."""
        stored = self._readable(name, row).stored
        reads = self._plans.for_units(stored.gone)
        return (reads(stored), reads.cost)

    def checked(self, name, row):
        """Return the data of a row without a clash."""
        stored = self._readable(name, row).stored
        found = clash(self._table, stored)
        if found is not None:
            raise Unsure(found)
        reads = self._plans.for_units(stored.gone)
        return reads(stored)

    def mended(self, name, row):
        """Return the data of all explanations of a row with the fewest pieces."""
        return agreed(self._table, self._readable(name, row).stored, units_of(self._table))

    def scrub(self, name):
        """Return the list of the rows, but lost ones, that have a clash."""
        self._expect_object(name)
        rows = [(index, row) for index, row in enumerate(self._state.things[name].rows) if not row.is_lost]
        return [index for index, row in rows if clash(self._table, row.stored) is not None]

    def write(self, name, row, changes, crash=None):
        """Write new values of a row; return the cost of the reads. With a crash the store is halted behind it."""
        old = self._row(name, row)
        expect_changes(self._table, changes)
        changed = tuple([index for index, _ in changes])
        gone = old.stored.gone
        many = len([piece for piece in touched_pieces(self._table, changed) if piece not in gone])
        if crash is not None and not is_between(crash, 0, many):
            raise InvalidNumber(crash)
        if old.is_lost:
            expect_had(self._table, old)
        found = clash(self._table, old.stored)
        if found is not None:
            raise Unsure(found)
        if not is_size(self._table.prime, self._table.size + len(changed)):
            raise LimitExceeded(MOST_MIXED)
        reads = self._plans.for_write(changed, gone)
        order = self._plans.order_for_write(changed, gone)
        stored = rewritten(self._table, changed, [value for _, value in changes], old.stored, reads(old.stored))
        new = Row(stored) if crash is None else crashed_row(old.stored, stored, changed, order[:crash])
        crashed = None if crash is None else (name, row)
        things = {**self._state.things, name: self._state.things[name].with_row(row, new)}
        self._go_on(("write", name, row, tuple(changes), crash), things, self._state.down, crashed)
        return reads.cost

    def recover(self, mending=False):
        """Return "new", "old" or "none": which data the row has behind a crash."""
        if self._state.crashed is None:
            raise NotHalted()
        name, index = self._state.crashed
        thing = self._state.things[name]
        word, row = recovered_row(self._table, thing.rows[index], mending)
        things = {**self._state.things, name: thing.with_row(index, row)}
        self._go_on(("recover", mending), things, self._state.down, None)
        return word

    def loss(self, machine):
        """Break a working machine."""
        if not self._is_working(machine):
            raise InvalidNumber(machine)
        things = {name: thing.behind_loss(machine) for name, thing in self._state.things.items()}
        down = tuple(sorted([*self._state.down, machine]))
        self._go_on(("loss", machine), things, down, self._state.crashed)

    def renew(self, machine):
        """Let a broken machine work again, without pieces."""
        if not is_integer(machine) or machine not in self._state.down:
            raise InvalidNumber(machine)
        down = tuple([other for other in self._state.down if other != machine])
        self._go_on(("renew", machine), self._state.things, down, self._state.crashed)

    def spoil(self, name, row, piece, values):
        """Let other values come to stand in a piece of a row."""
        old = self._found_row(name, row)
        if not is_between(piece, 0, len(self._table) - 1) or piece in old.stored.gone:
            raise InvalidPieces(piece)
        many = len(self._table.pieces[piece])
        if not has_items(values, many, many) or not all([self._is_value(value) for value in values]):
            raise InvalidStored(values)
        thing = self._state.things[name].with_row(row, old.with_stored(old.stored.bent(piece, values)))
        self._change(("spoil", name, row, piece, tuple(values)), name, thing)

    def heal(self, name, row):
        """Write what is right by the mended data into the pieces of a row that differ; return these."""
        data = self.mended(name, row)
        table = self._table
        old = self._row(name, row)
        stored = table(data).without(old.stored.gone)
        thing = self._state.things[name].with_row(row, old.with_stored(stored))
        self._change(("heal", name, row), name, thing)
        return old.stored - stored

    def rebuild(self, name, piece, machine):
        """Make a gone piece anew on a machine, in all rows; return the cost of the reads."""
        self._expect_object(name)
        where = self._state.things[name].placing.where
        if not is_between(piece, 0, len(where) - 1) or where[piece] is not None:
            raise InvalidPieces(piece)
        if not self._is_working(machine):
            raise InvalidNumber(machine)
        return self._make("rebuild", name, piece, machine)

    def shift(self, name, piece, machine):
        """Take a piece that is there to another machine, in all rows; return the cost of the reads."""
        self._expect_object(name)
        where = self._state.things[name].placing.where
        if not is_between(piece, 0, len(where) - 1) or where[piece] is None:
            raise InvalidPieces(piece)
        if not self._is_working(machine) or where[piece] == machine:
            raise InvalidNumber(machine)
        return self._make("shift", name, piece, machine)

    def danger(self, name):
        """Return (danger, machines, data): the fewest machines by whose loss an object would be lost."""
        self._expect_object(name)
        machines, data = fatal_machines(self._table, self._state.things[name].placing)[0]
        return (len(machines), machines, data)

    def queue(self):
        """Return the ascending list of (danger, name) of all objects with a gone piece."""
        self._expect_not_halted()
        things = self._state.things
        return sorted([(self.danger(name)[0], name) for name in things if None in things[name].placing.where])

    def history(self):
        """Return the list of the deeds."""
        deeds = []
        state = self._state
        while state.before is not None:
            deeds.append(state.deed)
            state = state.before
        return deeds[::-1]

    def undo(self):
        """Take the last deed back."""
        if self._state.before is None:
            raise NothingToUndo()
        self._state = self._state.before

    def trial(self):
        """Return what gives this store for one `with`, behind which the store is as before."""
        return Trial(self)

    def attempt(self, visitor):
        """Call a function with this store and return its result; behind it the store is as before."""
        before = self._state
        try:
            return visitor(self)
        finally:
            self._state = before

    def copy(self):
        """Return an independent store."""
        other = Store(self._table, self._cost, self._machines)
        # Plans and states never depend on what a store does later.
        other._plans = self._plans
        other._state = self._state
        return other

    def _is_data(self, value):
        """Return whether any object is data of the table."""
        return is_data(self._table.prime, self._table.size, value)

    def _is_value(self, value):
        """Return whether any object can stand in a part."""
        return is_between(value, 0, self._table.prime - 1)

    def _is_working(self, machine):
        """Return whether any object is a working machine."""
        return is_between(machine, 0, self._machines - 1) and machine not in self._state.down

    def _expect_not_halted(self):
        """Raise Halted if a write has crashed."""
        if self._state.crashed is not None:
            raise Halted(self._state.crashed[0])

    def _expect_object(self, name):
        """Raise Halted if a write has crashed, then UnknownName for any object that is not the name of an object."""
        self._expect_not_halted()
        if name not in self:
            raise UnknownName(name)

    def _found_row(self, name, row):
        """Return a Row of an object, also while the store is halted."""
        if name not in self:
            raise UnknownName(name)
        rows = self._state.things[name].rows
        if not is_between(row, 0, len(rows) - 1):
            raise InvalidNumber(row)
        return rows[row]

    def _row(self, name, row):
        """Return a Row of an object."""
        self._expect_not_halted()
        return self._found_row(name, row)

    def _readable(self, name, row):
        """Return a Row of an object, the data of which can be had."""
        found = self._row(name, row)
        expect_had(self._table, found)
        return found

    def _make(self, word, name, piece, machine):
        """Do the deed of this word: make a piece on a machine, in all rows, by the least reads; return their cost."""
        thing = self._state.things[name]
        reads = self._plans.for_piece(piece, gone_pieces(thing.placing))
        self._change((word, name, piece, machine), name, thing.with_piece_from(reads, piece, machine))
        return reads.cost * len([row for row in thing.rows if not row.is_lost])

    def _change(self, deed, name, thing):
        """Let a deed change one object."""
        self._go_on(deed, {**self._state.things, name: thing}, self._state.down, self._state.crashed)

    def _go_on(self, deed, things, down, crashed):
        """Let a deed lead to a new state."""
        self._state = State(self._state, deed, things, down, crashed)
