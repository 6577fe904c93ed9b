import unittest

from leastreads.errors import InvalidOperand, InvalidPieces, InvalidSpots, InvalidStored
from leastreads.stored import Stored
from leastreads.sums import Sum
from leastreads.tables import Table
from support import NO_INTEGERS, NO_LISTS, ODD, data_of, raised

WRONG_VALUES = [[], (), (0, 0, 0, 0), [0] * 4, (7,), (-1,), (0, 7), [0, -1], (0, True), [False], (0, None), [[0]]]


class StandIn:
    """As much of a table as `fits` looks at."""

    def __init__(self, prime, counts):
        self.prime = prime
        self.pieces = tuple(((0,),) * count for count in counts)


class StoredTest(unittest.TestCase):
    def setUp(self):
        self.stored = Stored([(2,), None, [0, 6, 1]])

    def test_properties(self):
        self.assertEqual(self.stored.pieces, ((2,), None, (0, 6, 1)))
        self.assertEqual(self.stored.gone, (1,))
        self.assertEqual(len(self.stored), 3)
        self.assertEqual(Stored(pieces=[[0]]).gone, ())
        for name in ["pieces", "gone"]:
            self.assertRaises(AttributeError, setattr, self.stored, name, ())

    def test_one_to_six_pieces_of_one_to_three_values(self):
        for many in range(1, 7):
            for count in range(1, 4):
                stored = Stored([[6] * count] * many)
                self.assertEqual((len(stored), len(list(stored))), (many, many * count))
            gone = Stored([None] * many)
            self.assertEqual((len(gone), gone.gone, list(gone)), (many, tuple(range(many)), []))

    def test_no_reference_kept(self):
        values = [0, 1]
        pieces = [values, None]
        stored = Stored(pieces)
        values[0] = 5
        pieces[1] = (1,)
        self.assertEqual(stored.pieces, ((0, 1), None))

    def test_wrong_pieces(self):
        wrong = [[], (), [None] * 7, [(0,)] * 7, [0], [1, (0,)], ["0"], [()], self.stored]
        wrong += [[(0,), values] for values in WRONG_VALUES] + [[(0,), odd] for odd in ODD if odd is not None]
        for pieces in wrong + NO_LISTS:
            self.assertIs(raised(InvalidStored, Stored, pieces).value, pieces)

    def test_spots(self):
        self.assertEqual(list(self.stored), [(0, 0), (2, 0), (2, 1), (2, 2)])
        self.assertEqual([self.stored[spot] for spot in self.stored], [2, 0, 6, 1])
        self.assertEqual(self.stored[2, 1], 6)
        for spot in self.stored:
            self.assertIs(spot in self.stored, True)

    def test_what_is_no_spot(self):
        wrong = [(1, 0), (0, 1), (2, 3), (3, 0), (-1, 0), (0, -1), (False, 0), (0, False), (2, True), [0, 0], (0,)]
        for spot in wrong + NO_INTEGERS + [0, 1, (0, 0, 0), (0, "0"), (None, 0), ((0, 0),), (0.0, 0)]:
            self.assertIs(spot in self.stored, False)
            self.assertIs(raised(InvalidSpots, lambda: self.stored[spot]).value, spot)

    def test_without(self):
        for pieces in [(0,), [0]]:
            self.assertEqual(self.stored.without(pieces), Stored([None, None, (0, 6, 1)]))
        self.assertEqual(self.stored.without(pieces=[0, 1, 2]).gone, (0, 1, 2))
        self.assertEqual(self.stored.without([1]), self.stored)
        self.assertEqual(self.stored.without(()), self.stored)
        self.assertEqual(self.stored.gone, (1,))

    def test_without_wrong_pieces(self):
        wrong = [[1, 0], (0, 0), [3], (-1,), [0, 3], [True], [0, True], (None,), ["0"], [(0,)], (0, 1, 2, 3), [0.0]]
        for pieces in wrong + NO_LISTS:
            self.assertIs(raised(InvalidPieces, self.stored.without, pieces).value, pieces)

    def test_bent(self):
        self.assertEqual(self.stored.bent(0, (6,)), Stored([(6,), None, (0, 6, 1)]))
        self.assertEqual(self.stored.bent(values=[1, 2], piece=1), Stored([(2,), (1, 2), (0, 6, 1)]))
        self.assertEqual(self.stored.bent(2, [0]), Stored([(2,), None, (0,)]))
        self.assertEqual(self.stored, Stored([(2,), None, (0, 6, 1)]))
        values = [1]
        bent = self.stored.bent(0, values)
        values[0] = 3
        self.assertEqual(bent[0, 0], 1)

    def test_bent_wrongly(self):
        for piece in NO_INTEGERS + [-1, 3, 10**25]:
            self.assertIs(raised(InvalidPieces, self.stored.bent, piece, None).value, piece)
        for values in WRONG_VALUES + NO_LISTS:
            self.assertIs(raised(InvalidStored, self.stored.bent, 0, values).value, values)

    def test_fits(self):
        for prime in (2, 3, 5, 7):
            self.assertIs(self.stored.fits(StandIn(prime, [1, 2, 3])), prime == 7)
        self.assertIs(Stored([(1,), None]).fits(StandIn(2, [1, 3])), True)
        self.assertIs(Stored([(2,), None]).fits(StandIn(2, [1, 3])), False)
        self.assertIs(Stored([None, None]).fits(table=StandIn(2, [1, 3])), True)
        for counts in [[1, 1], [1, 1, 2], [2, 1, 3], [1, 1, 3, 1]]:
            self.assertIs(self.stored.fits(StandIn(7, counts)), False)

    def test_difference(self):
        other = Stored([(2, 2), (0,), (0, 6, 2)])
        self.assertEqual(self.stored - other, (0, 2))
        self.assertEqual(other - self.stored, (0, 2))
        self.assertEqual(other - other, ())
        self.assertEqual(other - Stored([(2, 2), (1,), (0, 6, 2)]), (1,))
        self.assertEqual(Stored([None, None, None]) - other, ())

    def test_wrong_difference(self):
        for other in ODD + [0, (), ((2,), None, (0, 6, 1)), Stored([(2,)]), Stored([None] * 4), Sum(2, (1,))]:
            self.assertIs(raised(InvalidOperand, lambda: self.stored - other).other, other)

    def test_equality(self):
        self.assertTrue(self.stored == Stored(((2,), None, (0, 6, 1))))
        self.assertFalse(self.stored != Stored(((2,), None, (0, 6, 1))))
        others = [Stored([(2,), (0,), (0, 6, 1)]), Stored([(2,), None]), Stored([(2,), None, (0, 6)]), Sum(7, (2,))]
        for other in others + ODD + [((2,), None, (0, 6, 1)), [(2,), None, (0, 6, 1)]]:
            self.assertFalse(self.stored == other)
            self.assertTrue(self.stored != other)


class StoredByTablesTest(unittest.TestCase):
    def setUp(self):
        self.table = Table(3, 2, [[(1, 0)], [(0, 1)], [(1, 1), (1, 2)]])

    def test_example(self):
        stored = self.table((2, 1))
        found = [stored.pieces, stored.bent(1, (0,)) - stored, stored.without([0]).gone, list(stored.without([0]))]
        self.assertEqual(found, [((2,), (1,), (0, 1)), (1,), (0,), [(1, 0), (2, 0), (2, 1)]])
        self.assertEqual(stored[2, 1], 1)

    def test_what_a_table_stores_fits_it(self):
        for data in data_of(3, 2):
            stored = self.table(data)
            self.assertIs(stored.fits(self.table), True)
            self.assertEqual(list(stored), list(self.table))
            self.assertEqual([stored[spot] for spot in stored], [self.table[spot](data) for spot in self.table])
            for pieces in [[0], [1, 2], [0, 1, 2]]:
                self.assertIs(stored.without(pieces).fits(self.table), True)

    def test_what_does_not_fit_a_table(self):
        stored = self.table((2, 1))
        self.assertIs(stored.bent(0, (3,)).fits(self.table), False)
        self.assertIs(stored.bent(0, (3,)).fits(Table(5, 2, self.table.pieces)), True)
        self.assertIs(stored.bent(0, (0, 0)).fits(self.table), False)
        self.assertIs(stored.bent(0, (0, 0)).without([0]).fits(self.table), True)
        self.assertIs(stored.fits(self.table.ordered([2, 0, 1])), False)
        self.assertIs(stored.fits(Table(3, 2, self.table.pieces[:2])), False)
        self.assertIs(stored.fits(Table(2, 2, [[(1, 0)], [(0, 1)], [(1, 1), (1, 0)]])), False)
        self.assertIs(self.table((1, 0)).fits(Table(2, 1, [[(1,)], [(1,)], [(1,), (1,)]])), True)

    def test_wrong_pieces_are_those_that_differ(self):
        for data in data_of(3, 2):
            stored = self.table(data)
            for piece, count in enumerate([1, 1, 2]):
                for values in data_of(3, count):
                    wrong = () if values == stored.pieces[piece] else (piece,)
                    self.assertEqual(stored.bent(piece, values) - stored, wrong)
                    self.assertEqual(stored - stored.bent(piece, values), wrong)
                    self.assertEqual(stored.bent(piece, values).without([piece]) - stored, ())


if __name__ == "__main__":
    unittest.main()
