import unittest

from leastreads.errors import InvalidData, InvalidNumber, InvalidPieces, InvalidSpots, InvalidTable
from leastreads.spaces import Space
from leastreads.stored import Stored
from leastreads.sums import Sum
from leastreads.tables import Table
from support import NO_INTEGERS, NO_LISTS, ODD, SIZES, EqualToAll, data_of, raised, span_of, value_of

PIECES = [[(1, 0)], [(0, 1)], [(1, 1), (1, 2)]]
TABLES = [
    (2, 1, [[(1,)]]),
    (2, 3, [[(1, 0, 1), (1, 0, 1)], [(0, 0, 0)], [(0, 1, 0)]]),
    (3, 2, PIECES),
    (5, 2, [[(4, 3), (2, 4), (1, 1)]]),
    (7, 1, [[(0,)], [(6,)], [(3,)], [(1,)], [(2,)], [(5,)]]),
    (2, 2, [[(1, 0), (0, 1)], [(1, 1), (0, 1), (0, 0)], [(1, 0), (0, 1)], [(1, 1)], [(1, 1)], [(1, 0)]]),
]


def spots_in(pieces):
    return [(piece, part) for piece, parts in enumerate(pieces) for part in range(len(parts))]


class TableTest(unittest.TestCase):
    def setUp(self):
        self.table = Table(3, 2, PIECES)

    def test_properties(self):
        for prime, size, pieces in TABLES:
            table = Table(prime, size, pieces)
            self.assertEqual((table.prime, table.size, len(table)), (prime, size, len(pieces)))
            self.assertEqual(table.pieces, tuple(tuple(parts) for parts in pieces))
            self.assertEqual(list(table), spots_in(pieces))
            rows = [factors for parts in pieces for factors in parts]
            self.assertIs(table.is_whole, len(span_of(prime, size, rows)) == prime**size)
            self.assertEqual([table[spot] for spot in table], [Sum(prime, row) for row in rows])
        for name in ["prime", "size", "pieces", "is_whole"]:
            self.assertRaises(AttributeError, setattr, table, name, 1)

    def test_lists_and_tuples_alike_and_no_reference_kept(self):
        pieces = [[[1, 0]], [[0, 1]], [[1, 1], [1, 2]]]
        table = Table(pieces=pieces, size=2, prime=3)
        self.assertEqual(table, self.table)
        pieces[2][1][0] = 0
        del pieces[0]
        self.assertEqual(table, self.table)
        self.assertEqual(table.pieces, (((1, 0),), ((0, 1),), ((1, 1), (1, 2))))

    def test_one_to_six_pieces_up_to_ten_parts(self):
        for counts in [[1], [3], [1] * 6, [3, 3, 3, 1], [2, 2, 2, 2, 1, 1], [1, 1, 1, 1, 3, 3]]:
            table = Table(2, 1, [[(1,)] * count for count in counts])
            self.assertEqual([len(table), len(list(table))], [len(counts), sum(counts)])
        for counts in [[3, 3, 3, 2], [2, 2, 2, 2, 2, 1], [3, 3, 3, 3, 3, 3]]:
            self.assertIsNone(raised(InvalidTable, Table, 2, 1, [[(1,)] * count for count in counts]).place)

    def test_wrong_prime_then_size_then_pieces(self):
        for prime in NO_INTEGERS + [0, 1, 4, 11]:
            self.assertIs(raised(InvalidNumber, Table, prime, "size", None).value, prime)
        for prime, greatest in SIZES.items():
            for size in NO_INTEGERS + [0, -1, greatest + 1]:
                self.assertIs(raised(InvalidNumber, Table, prime, size, None).value, size)
            self.assertIsNone(raised(InvalidTable, Table, prime, greatest, None).place)

    def test_wrong_as_a_whole(self):
        for pieces in NO_LISTS + [[], (), [[(1,)]] * 7, [None] * 7, self.table]:
            self.assertIsNone(raised(InvalidTable, Table, 2, 1, pieces).place)

    def test_too_many_parts_are_told_ahead_of_a_wrong_piece(self):
        three = [(1,)] * 3
        for pieces in [[three, three, three, [(1,), None]], [None, three, three, three, three], [[(1,)] * 11]]:
            self.assertIsNone(raised(InvalidTable, Table, 2, 1, pieces).place)
        self.assertEqual(raised(InvalidTable, Table, 2, 1, [three, [(1,)] * 4]).place, (1,))

    def test_wrong_piece(self):
        for piece in NO_LISTS + [[], (), [(1,)] * 4]:
            self.assertEqual(raised(InvalidTable, Table, 2, 1, [piece]).place, (0,))
            self.assertEqual(raised(InvalidTable, Table, 2, 1, [[(1,)], piece, piece]).place, (1,))

    def test_wrong_part(self):
        wrong = [(), (0,), (0, 0, 0), (0, 3), (-1, 0), (0, True), [False, 0], (0, None), Sum(3, (1, 0))]
        for part in NO_LISTS + wrong:
            self.assertEqual(raised(InvalidTable, Table, 3, 2, [[part, part]]).place, (0, 0))
            self.assertEqual(raised(InvalidTable, Table, 3, 2, [[(1, 0)], [(0, 1), part]]).place, (1, 1))

    def test_wrong_places_are_told_piece_by_piece(self):
        self.assertEqual(raised(InvalidTable, Table, 3, 2, [[(1, 0)], [(0, 1), None], None]).place, (1, 1))
        self.assertEqual(raised(InvalidTable, Table, 3, 2, [[(1, 0)], None, [None]]).place, (1,))
        self.assertEqual(raised(InvalidTable, Table, 3, 2, [[None, (3, 3)], []]).place, (0, 0))

    def test_what_is_no_spot(self):
        wrong = [(0, 1), (2, 2), (3, 0), (-1, 0), (0, -1), (False, 0), (2, True), [0, 0], (0,), (0, 0, 0), (0, None)]
        for spot in NO_INTEGERS + wrong + [0, (0.0, 0), ("0", 0), self.table]:
            self.assertIs(spot in self.table, False)
            self.assertIs(raised(InvalidSpots, lambda: self.table[spot]).value, spot)
        self.assertTrue(all((spot in self.table) is True for spot in self.table))

    def test_equality(self):
        self.assertTrue(self.table == Table(3, 2, PIECES))
        self.assertFalse(self.table != Table(3, 2, PIECES))
        others = [Table(5, 2, PIECES), Table(3, 2, PIECES[:2]), Table(3, 2, PIECES[::-1]), self.table.pieces, PIECES]
        for other in others + ODD + [Table(3, 1, [[(1,)]]), self.table((0, 0))]:
            self.assertFalse(self.table == other)
            self.assertTrue(self.table != other)
        self.assertFalse(self.table.__eq__(EqualToAll()))

    def test_what_is_stored(self):
        for prime, size, pieces in TABLES:
            table = Table(prime, size, pieces)
            for data in data_of(prime, size):
                values = [[value_of(prime, factors, data) for factors in parts] for parts in pieces]
                self.assertEqual(table(data), Stored(values))
                self.assertEqual(table(data=list(data)), Stored(values))

    def test_what_is_stored_of_wrong_data(self):
        for data in NO_LISTS + [(), (0,), (0, 0, 0), (0, 3), [-1, 0], (0, True), ((0, 0),)]:
            self.assertIs(raised(InvalidData, self.table, data).value, data)

    def test_spaces(self):
        for prime, size, pieces in TABLES:
            table = Table(prime, size, pieces)
            self.assertEqual(table.space(), Space(prime, size, [table[spot] for spot in table]))
            self.assertEqual(table.space(None), table.space())
            self.assertEqual(table.space([]), Space(prime, size))
            for spot in table:
                self.assertEqual(table.space(spots=(spot,)), Space(prime, size, [table[spot]]))
            self.assertEqual(table.space(list(table)), table.space())
            self.assertEqual(table.space(list(table)[1:]), Space(prime, size, [table[spot] for spot in list(table)[1:]]))

    def test_spaces_of_wrong_spots(self):
        wrong = [[(1, 0), (0, 0)], [(0, 0), (0, 0)], [(0, 1)], [[0, 0]], [(0, 0), None], (0, 0), [(0, False)], ["00"]]
        for spots in [item for item in NO_LISTS if item is not None] + wrong + [list(self.table) + [(3, 0)]]:
            self.assertIs(raised(InvalidSpots, self.table.space, spots).value, spots)

    def test_spots_of_pieces(self):
        self.assertEqual(self.table.spots_of([0, 2]), ((0, 0), (2, 0), (2, 1)))
        self.assertEqual(self.table.spots_of(pieces=(0, 1, 2)), tuple(self.table))
        self.assertEqual(self.table.spots_of([]), ())
        wrong = [[1, 0], (0, 0), [3], (-1,), [True], [0, None], ["0"], [(0, 0)], (0, 1, 2, 3)]
        for pieces in NO_LISTS + wrong:
            self.assertIs(raised(InvalidPieces, self.table.spots_of, pieces).value, pieces)

    def test_ordered(self):
        self.assertEqual(self.table.ordered([2, 0, 1]), Table(3, 2, [PIECES[2], PIECES[0], PIECES[1]]))
        self.assertEqual(self.table.ordered(order=(0, 1, 2)), self.table)
        for data in data_of(3, 2):
            stored = self.table(data).pieces
            self.assertEqual(self.table.ordered((1, 2, 0))(data).pieces, (stored[1], stored[2], stored[0]))
        wrong = [[], [0, 1], [0, 1, 1], [0, 1, 3], [-1, 0, 1], [0, 1, 2, 2], [0, 1, 2, 3], [False, 1, 2], [0, True, 2]]
        for order in NO_LISTS + wrong + [[0, None, 1], ["0", "1", "2"]]:
            self.assertIs(raised(InvalidPieces, self.table.ordered, order).value, order)


if __name__ == "__main__":
    unittest.main()
