"""What the tests of stores need: a store beside the store, told by going through all data, spots and machines."""

from copy import deepcopy

from leastreads import errors
from leastreads.stored import Stored
from leastreads.writes import mixed
from net_support import is_zero_at, least_spots
from paper_support import PlainWrite, is_combination
from support import data_of, is_proper_data, rows_at, subsets, sum_of, units_of, zeros_of
from test_placings import blind_at
from test_wrong import parts_of

NAMED = ["put", "drop", "read", "checked", "mended", "scrub", "write", "heal", "rebuild", "shift", "danger"]


def outcome(call, *arguments):
    """Return ("told", what a call returns) or ("raised", the error)."""
    try:
        return "told", call(*arguments)
    except (errors.LeastError, errors.UnknownName, errors.Halted, errors.NotHalted, errors.NothingToUndo) as error:
        return "raised", error


def is_integer(value, low, high):
    return type(value) is int and low <= value <= high


class Refused(Exception):
    """What a store has to raise: an error class, and its object, or a check of it."""

    def __init__(self, error, kept=None, is_right=None):
        self.error = error
        self.kept = kept
        self.is_right = is_right


class Beside:
    """A store, told plainly: each object is a dict of its machines and its rows, each row a dict, too."""

    def __init__(self, table, prices, machines):
        self.table, self.prices, self.machines = table, prices, machines
        self.objects, self.down, self.crashed, self.deeds = {}, set(), None, []

    def copy(self):
        other = Beside(self.table, self.prices, self.machines)
        other.objects, other.down = deepcopy(self.objects), set(self.down)
        other.crashed, other.deeds = self.crashed, list(self.deeds)
        return other

    def spots_there(self, row):
        return [spot for spot in self.table if row["pieces"][spot[0]] is not None]

    def gone(self, row):
        return tuple(piece for piece, values in enumerate(row["pieces"]) if values is None)

    def fitting(self, row):
        """Return all data that fit all that is there in a row."""
        pairs = [(data, parts_of(self.table, data)) for data in data_of(self.table.prime, self.table.size)]
        return [data for data, made in pairs if all(v in (None, made[p]) for p, v in enumerate(row["pieces"]))]

    def plain_write(self, row):
        return PlainWrite(self.table, row["changed"], 0, self.gone(row))

    def mixed_wrong(self, row):
        """Return the list of (number of wrong pieces, wrong pieces, data) for all data of a row's mixed table."""
        plain, size, rows = self.plain_write(row), self.table.size, []
        for data in data_of(self.table.prime, size + len(row["changed"])):
            old, new = parts_of(self.table, data[:size]), parts_of(self.table, plain.new_of(data))
            made = [new[piece] if piece in row["written"] else old[piece] for piece in range(len(self.table))]
            wrong = tuple(p for p, values in enumerate(row["pieces"]) if values not in (None, made[p]))
            rows.append((len(wrong), wrong, data))
        return sorted(rows)

    def expect_object(self, name):
        if self.crashed is not None:
            raise Refused(errors.Halted, self.crashed[0])
        if type(name) is not str or name not in self.objects:
            raise Refused(errors.UnknownName, name)
        return self.objects[name]

    def expect_row(self, name, row):
        rows = self.expect_object(name)["rows"]
        if not is_integer(row, 0, len(rows) - 1):
            raise Refused(errors.InvalidNumber, row)
        return rows[row]

    def expect_had(self, row):
        """Raise Refused if the data of a row cannot be had; any data that show it are right."""
        if row["lost"]:
            there = [piece for piece, values in enumerate(row["pieces"]) if values is not None]
            _, news = self.plain_write(row).blinds(row["written"], there)
            raise Refused(errors.Lost, is_right=lambda error: error.blind in news)
        blinds = zeros_of(self.table.prime, self.table.size, rows_at(self.table, self.spots_there(row)))[1:]
        if blinds:
            raise Refused(errors.Lost, is_right=lambda error: error.blind in blinds)

    def expect_no_clash(self, row):
        if not self.fitting(row):
            raise Refused(errors.Unsure, is_right=lambda error: self.is_clash(row, error.found, self.table))

    def is_clash(self, row, told, table):
        """Return whether what is told gives the sum of zeros in a table, but not 0 of what is there."""
        if not is_combination(table, self.spots_there(row), told) or any(sum_of(table, told)):
            return False
        return sum(row["pieces"][piece][part] * factor for (piece, part), factor in told) % self.table.prime != 0

    def working(self, machine):
        return is_integer(machine, 0, self.machines - 1) and machine not in self.down

    def put(self, name, rows, where):
        if self.crashed is not None:
            raise Refused(errors.Halted, self.crashed[0])
        if type(name) is not str or not 1 <= len(name) <= 8 or not set(name) <= set("abcdefghijklmnopqrstuvwxyz"):
            raise Refused(errors.InvalidName, name)
        data = data_of(self.table.prime, self.table.size)
        if not isinstance(rows, (list, tuple)) or not 1 <= len(rows) <= 4 or not all(tuple(row) in data for row in rows):
            raise Refused(errors.InvalidData, rows)
        if len(where) != len(self.table) or not all(self.working(machine) for machine in where):
            raise Refused(errors.InvalidPlacing, where)
        if name not in self.objects and len(self.objects) == 8:
            raise Refused(errors.LimitExceeded, 8)
        made = [{"pieces": parts_of(self.table, row), "lost": False, "changed": (), "written": ()} for row in rows]
        self.objects[name] = {"where": list(where), "rows": made}
        self.deeds.append(("put", name, tuple(tuple(row) for row in rows), tuple(where)))

    def drop(self, name):
        self.expect_object(name)
        del self.objects[name]
        self.deeds.append(("drop", name))

    def read(self, name, row):
        row = self.expect_row(name, row)
        self.expect_had(row)
        gone = [spot for spot in self.table if row["pieces"][spot[0]] is None]
        cost, spots = least_spots(self.table, self.prices, gone, units_of(self.table))
        for data in data_of(self.table.prime, self.table.size):
            made = parts_of(self.table, data)
            if all(made[piece][part] == row["pieces"][piece][part] for piece, part in spots):
                return data, cost

    def checked(self, name, row):
        row = self.expect_row(name, row)
        self.expect_had(row)
        self.expect_no_clash(row)
        return self.fitting(row)[0]

    def mended(self, name, row):
        row = self.expect_row(name, row)
        self.expect_had(row)
        found = []
        for data in data_of(self.table.prime, self.table.size):
            made = parts_of(self.table, data)
            wrong = tuple(p for p, values in enumerate(row["pieces"]) if values not in (None, made[p]))
            found.append((len(wrong), wrong, data))
        found = sorted(item for item in found if item[0] == min(found)[0])
        if len(found) > 1:
            raise Refused(errors.Unsure, (found[0][1:], found[1][1:]))
        return found[0][2]

    def scrub(self, name):
        rows = self.expect_object(name)["rows"]
        return [index for index, row in enumerate(rows) if not row["lost"] and not self.fitting(row)]

    def write(self, name, row, changes, crash=None):
        at, row = row, self.expect_row(name, row)
        if not self.are_changes(changes):
            raise Refused(errors.InvalidChange, changes)
        changed = tuple(index for index, _ in changes)
        plain = PlainWrite(self.table, changed, 1, self.gone(row))
        if crash is not None and not is_integer(crash, 0, len(plain.order)):
            raise Refused(errors.InvalidNumber, crash)
        if row["lost"]:
            self.expect_had(row)
        self.expect_no_clash(row)
        if self.table.prime ** (self.table.size + len(changed)) > 4096 or self.table.size + len(changed) > 6:
            raise Refused(errors.LimitExceeded, 4096)
        cost = self.cost_of_write(row, changed)
        orders = plain.safe_orders() or PlainWrite(self.table, changed, 0, self.gone(row)).safe_orders()
        if not orders:
            nothing = PlainWrite(self.table, changed, 0, self.gone(row))
            raise Refused(errors.Unsafe, is_right=lambda error: nothing.is_right(("blocked", error.blocks)))
        new = list(self.fitting(row)[0])
        for index, value in changes:
            new[index] = value
        made = parts_of(self.table, new)
        written = orders[0] if crash is None else orders[0][:crash]
        for piece in written:
            row["pieces"][piece] = made[piece]
        if crash is not None:
            self.crashed = (name, at)
            row["changed"], row["written"] = changed, tuple(sorted(written))
        self.deeds.append(("write", name, at, tuple(changes), crash))
        return cost

    def are_changes(self, changes):
        if not isinstance(changes, (list, tuple)) or len(changes) == 0:
            return False
        for change in changes:
            if type(change) is not tuple or len(change) != 2 or not is_integer(change[0], 0, self.table.size - 1):
                return False
            if not is_integer(change[1], 0, self.table.prime - 1):
                return False
        return [index for index, _ in changes] == sorted({index for index, _ in changes})

    def cost_of_write(self, row, changed):
        """Return the cost of the least reads of a write, or raise Refused."""
        rests = []
        for piece, part in self.spots_there(row):
            factors = self.table.pieces[piece][part]
            if any(factors[index] for index in changed):
                rests.append([0 if index in changed else factor for index, factor in enumerate(factors)])
        wishes = [type(units_of(self.table)[0])(self.table.prime, rest) for rest in rests]
        if not wishes:
            return 0
        gone = [spot for spot in self.table if row["pieces"][spot[0]] is None]
        found = least_spots(self.table, self.prices, gone, wishes)
        if found is None:
            zeros = zeros_of(self.table.prime, self.table.size, rows_at(self.table, self.spots_there(row)))
            blinds = [data for data in zeros if any(item(data) for item in wishes)]
            raise Refused(errors.Lost, is_right=lambda error: error.blind in blinds)
        return found[0]

    def recover(self, mending=False):
        if self.crashed is None:
            raise Refused(errors.NotHalted)
        name, index = self.crashed
        row = self.objects[name]["rows"][index]
        word, data = self.recovered(row, mending)
        if word == "none":
            row["lost"] = True
        else:
            made = parts_of(self.table, data)
            row["pieces"] = [None if values is None else made[p] for p, values in enumerate(row["pieces"])]
            row["changed"], row["written"] = (), ()
        self.crashed = None
        self.deeds.append(("recover", mending))
        return word

    def recovered(self, row, mending):
        """Return (word, data), or raise Refused."""
        plain, rows = self.plain_write(row), self.mixed_wrong(row)
        there = [piece for piece, values in enumerate(row["pieces"]) if values is not None]
        olds, news = plain.blinds(row["written"], there)
        if rows[0][0] > 0 and not mending:
            table = mixed(self.table, row["changed"], row["written"])
            raise Refused(errors.Unsure, is_right=lambda error: self.is_clash(row, error.found, table))
        told = [(word, of) for word, blinds, of in [
            ("new", news, plain.new_of), ("old", olds, lambda data: data[: self.table.size])] if not blinds]  # fmt: skip
        rows = [item for item in rows if item[0] == rows[0][0]]
        for word, of in told:
            if len({of(item[2]) for item in rows}) == 1:
                return word, of(rows[0][2])
        if told:
            of = told[0][1]
            other = [item for item in rows if of(item[2]) != of(rows[0][2])][0]
            raise Refused(errors.Unsure, (rows[0][1:], other[1:]))
        return "none", None

    def loss(self, machine):
        if not self.working(machine):
            raise Refused(errors.InvalidNumber, machine)
        self.down.add(machine)
        for thing in self.objects.values():
            for piece, place in enumerate(thing["where"]):
                if place == machine:
                    thing["where"][piece] = None
                    for row in thing["rows"]:
                        row["pieces"][piece] = None
        self.deeds.append(("loss", machine))

    def renew(self, machine):
        if type(machine) is not int or machine not in self.down:
            raise Refused(errors.InvalidNumber, machine)
        self.down.remove(machine)
        self.deeds.append(("renew", machine))

    def spoil(self, name, row, piece, values):
        if type(name) is not str or name not in self.objects:
            raise Refused(errors.UnknownName, name)
        rows = self.objects[name]["rows"]
        if not is_integer(row, 0, len(rows) - 1):
            raise Refused(errors.InvalidNumber, row)
        if not is_integer(piece, 0, len(self.table) - 1) or rows[row]["pieces"][piece] is None:
            raise Refused(errors.InvalidPieces, piece)
        if not isinstance(values, (list, tuple)) or len(values) != len(self.table.pieces[piece]):
            raise Refused(errors.InvalidStored, values)
        if not all(is_integer(value, 0, self.table.prime - 1) for value in values):
            raise Refused(errors.InvalidStored, values)
        rows[row]["pieces"][piece] = tuple(values)
        self.deeds.append(("spoil", name, row, piece, tuple(values)))

    def heal(self, name, row):
        made = parts_of(self.table, self.mended(name, row))
        pieces = self.objects[name]["rows"][row]["pieces"]
        wrong = tuple(piece for piece, values in enumerate(pieces) if values not in (None, made[piece]))
        for piece in wrong:
            pieces[piece] = made[piece]
        self.deeds.append(("heal", name, row))
        return wrong

    def rebuild(self, name, piece, machine):
        return self.make("rebuild", name, piece, machine)

    def shift(self, name, piece, machine):
        return self.make("shift", name, piece, machine)

    def make(self, word, name, piece, machine):
        thing = self.expect_object(name)
        where = thing["where"]
        if not is_integer(piece, 0, len(where) - 1) or (where[piece] is None) != (word == "rebuild"):
            raise Refused(errors.InvalidPieces, piece)
        if not self.working(machine) or where[piece] == machine:
            raise Refused(errors.InvalidNumber, machine)
        gone = [spot for spot in self.table if where[spot[0]] is None]
        parts = [self.table[spot] for spot in self.table if spot[0] == piece]
        found = least_spots(self.table, self.prices, gone, parts)
        if found is None:
            there = [spot for spot in self.table if spot not in gone]
            raise Refused(errors.Lost, is_right=lambda error: self.is_blind(there, parts, error.blind))
        sound = [row for row in thing["rows"] if not row["lost"]]
        for row in sound:
            row["pieces"][piece] = self.values_from(row, found[1], piece)
        where[piece] = machine
        self.deeds.append((word, name, piece, machine))
        return found[0] * len(sound)

    def values_from(self, row, spots, piece):
        """Return the values of a piece for all data that fit what is read at some spots; pieces may be wrong."""
        for data in data_of(self.table.prime, self.table.size):
            made = parts_of(self.table, data)
            if all(made[other][part] == row["pieces"][other][part] for other, part in spots):
                return made[piece]
        raise AssertionError("least reads never clash among themselves")

    def is_blind(self, there, items, data):
        return is_proper_data(self.table, data) and is_zero_at(self.table, there, data) and any(item(data) for item in items)

    def danger(self, name):
        where = self.expect_object(name)["where"]
        for group in subsets(range(self.machines)):
            blinds = blind_at(self.table, where, group)
            if blinds:
                return len(group), group, blinds[0]

    def queue(self):
        if self.crashed is not None:
            raise Refused(errors.Halted, self.crashed[0])
        return sorted((self.danger(name)[0], name) for name in self.objects if None in self.objects[name]["where"])


class StoreChecks:
    """Methods for a TestCase that compares a store with one beside it."""

    def check_same(self, store, beside):
        """Check all that a store tells without doing anything."""
        self.assertEqual(store.names(), sorted(beside.objects))
        self.assertEqual((len(store), store.broken), (len(beside.objects), tuple(sorted(beside.down))))
        self.assertEqual(store.halted, beside.crashed)
        self.assertEqual(store.history(), beside.deeds)
        for name, thing in beside.objects.items():
            placing, rows = store[name]
            self.assertEqual((placing.machines, placing.where), (beside.machines, tuple(thing["where"])))
            self.assertEqual(rows, tuple(Stored(row["pieces"]) for row in thing["rows"]))

    def check_call(self, store, beside, word, *arguments):
        """Check a call against the same one beside; return ("told", ..) or ("raised", ..)."""
        before, history = store.copy(), store.history()
        how, told = outcome(getattr(store, word), *arguments)
        try:
            right = getattr(beside, word)(*arguments)
        except Refused as refused:
            self.assertEqual(how, "raised", (word, arguments, told, refused.error))
            self.assertIs(type(told), refused.error, (word, arguments))
            if refused.is_right is not None:
                self.assertTrue(refused.is_right(told), (word, arguments, vars(told)))
            elif vars(told):
                self.assertEqual(list(vars(told).values()), [refused.kept], (word, arguments))
            self.assertTrue(store == before and store.history() == history)
            return how, told
        self.assertEqual(how, "told", (word, arguments, told))
        self.assertEqual(told, right, (word, arguments))
        self.assertIs(type(told), type(right))
        return how, told

    def check_answers(self, store, beside):
        """Check all that can be asked of a store."""
        self.check_same(store, beside)
        self.check_call(store, beside, "queue")
        for name in [*beside.objects, "nothing"]:
            self.check_call(store, beside, "danger", name)
            self.check_call(store, beside, "scrub", name)
            for row in range(len(beside.objects.get(name, {"rows": [0]})["rows"]) + 1):
                for word in ["read", "checked", "mended"]:
                    self.check_call(store, beside, word, name, row)
