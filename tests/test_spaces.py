import unittest
from inspect import isgenerator
from itertools import combinations

from leastreads.errors import InvalidNumber, InvalidOperand, InvalidSum
from leastreads.spaces import Space
from leastreads.sums import Sum
from support import NO_INTEGERS, NO_LISTS, ODD, SIZES, EqualToAll, data_of, raised, span_of, value_of, zeros_of


def space_of(prime, size, rows):
    return Space(prime, size, [Sum(prime, row) for row in rows])


def some_rows(prime, size, most):
    """Return all lists of up to so many different sums, by their factors."""
    return [list(rows) for many in range(most + 1) for rows in combinations(data_of(prime, size), many)]


CASES = [(2, 1, 2), (2, 2, 4), (2, 3, 3), (3, 1, 2), (3, 2, 3), (5, 1, 2), (5, 2, 2), (7, 1, 2)]
MIXED = [
    (2, 6, [(1, 1, 0, 0, 1, 0), (0, 1, 1, 0, 0, 1), (1, 0, 1, 1, 0, 0), (0, 0, 0, 1, 1, 1)]),
    (3, 4, [(0, 0, 2, 1), (2, 1, 0, 1), (1, 2, 2, 0)]),
    (5, 3, [(0, 3, 4), (2, 1, 0)]),
    (7, 3, [(0, 6, 2), (0, 1, 5), (3, 3, 3)]),
    (7, 3, [(0, 0, 4)]),
]


def all_cases():
    """Return all (prime, size, rows) of small spaces, and some of greater ones."""
    return [(prime, size, rows) for prime, size, most in CASES for rows in some_rows(prime, size, most)] + MIXED


class SpacesTest(unittest.TestCase):
    def test_example(self):
        space = Space(3, 3, [Sum(3, (1, 1, 0)), Sum(3, (0, 1, 2))])
        self.assertEqual([item.factors for item in space], [(1, 0, 1), (0, 1, 2)])
        self.assertIs(Sum(3, (1, 2, 2)) in space, True)
        self.assertEqual(space.blind_data(Sum(3, (1, 0, 0))), (1, 2, 2))
        self.assertEqual(list(space.zeros()), [(0, 0, 0), (1, 2, 2), (2, 1, 1)])

    def test_reduced_sums(self):
        for prime, size, rows in all_cases():
            reduced = [item.factors for item in space_of(prime, size, rows)]
            self.assertEqual(span_of(prime, size, reduced), span_of(prime, size, rows))
            self.assertTrue(all(any(row) for row in reduced))
            leads = [[factor != 0 for factor in row].index(True) for row in reduced]
            self.assertEqual(leads, sorted(set(leads)))
            for row, lead in zip(reduced, leads):
                self.assertEqual([other[lead] for other in reduced], [int(other is row) for other in reduced])

    def test_properties(self):
        for prime, size, rows in all_cases():
            space = space_of(prime, size, rows)
            many = len(span_of(prime, size, rows))
            self.assertEqual((space.prime, space.size), (prime, size))
            self.assertEqual(prime ** len(space), many)
            self.assertIs(space.is_whole, many == prime**size)
            self.assertIsInstance(space.reduced_sums, tuple)
            self.assertEqual(list(space), list(space.reduced_sums))
            self.assertTrue(all(isinstance(item, Sum) and item.prime == prime for item in space))
        for name in ["prime", "size", "reduced_sums", "is_whole"]:
            self.assertRaises(AttributeError, setattr, space, name, 1)

    def test_without_sums_and_with_all(self):
        for prime, greatest in SIZES.items():
            for size in range(1, greatest + 1):
                units = [Sum.unit(prime, size, index) for index in range(size)]
                for space in [Space(prime, size), Space(prime, size, []), Space(prime, size, [units[0] * 0])]:
                    self.assertEqual((len(space), list(space), space.is_whole), (0, [], False))
                    self.assertEqual(list(space.zeros()), data_of(prime, size))
                    self.assertTrue(units[0] * 0 in space)
                    self.assertFalse(units[0] in space)
                    self.assertEqual(space.blind_data(units[0]), (1,) + (0,) * (size - 1))
                    self.assertEqual(space.blind_data(units[-1]), (0,) * (size - 1) + (1,))
                whole = Space(size=size, sums=tuple(reversed(units)), prime=prime)
                self.assertEqual((len(whole), list(whole), whole.is_whole), (size, units, True))
                self.assertEqual(list(whole.zeros()), [(0,) * size])
                self.assertIsNone(whole.blind_data(units[0]))

    def test_what_is_in_a_space(self):
        for prime, size, rows in all_cases():
            space, span = space_of(prime, size, rows), span_of(prime, size, rows)
            for factors in data_of(prime, size):
                self.assertIs(Sum(prime, factors) in space, factors in span)

    def test_what_is_no_sum_of_the_space(self):
        whole = Space(3, 2, [Sum(3, (1, 0)), Sum(3, (0, 1))])
        for item in ODD + [0, (1, 0), [1, 0], Sum(3, (1,)), Sum(3, (1, 0, 0)), Sum(5, (1, 0)), Sum(2, (1, 0)), whole]:
            self.assertIs(item in whole, False)
            self.assertIs(raised(InvalidSum, whole.blind_data, item).value, item)

    def test_zeros(self):
        for prime, size, rows in all_cases():
            space = space_of(prime, size, rows)
            self.assertEqual(list(space.zeros()), zeros_of(prime, size, rows))
        self.assertTrue(isgenerator(space.zeros()))

    def test_blind_data_are_the_first_ones(self):
        for prime, size, rows in all_cases():
            space, zeros = space_of(prime, size, rows), zeros_of(prime, size, rows)
            for factors in data_of(prime, size):
                blind = [data for data in zeros if value_of(prime, factors, data) != 0]
                self.assertEqual(space.blind_data(item=Sum(prime, factors)), blind[0] if blind else None)

    def test_each_sum_is_had_or_has_blind_data_but_never_both(self):
        for prime, size, rows in all_cases():
            space, zeros = space_of(prime, size, rows), zeros_of(prime, size, rows)
            for factors in data_of(prime, size):
                had = Sum(prime, factors) in space
                self.assertEqual(had, not any(value_of(prime, factors, data) for data in zeros))
                self.assertEqual(had, space.blind_data(Sum(prime, factors)) is None)

    def test_joined_and_common_sums(self):
        for prime, size, most in [(2, 2, 2), (2, 3, 2), (3, 2, 2), (5, 1, 1), (7, 1, 1)]:
            cases = [(space_of(prime, size, rows), rows) for rows in some_rows(prime, size, most)]
            spans = [span_of(prime, size, rows) for _, rows in cases]
            for (one, rows), mine in zip(cases, spans):
                for (other, others), theirs in zip(cases, spans):
                    both = {item.factors for item in map(lambda row: Sum(prime, row), mine) if item in one & other}
                    self.assertEqual(both, mine & theirs)
                    self.assertEqual(prime ** len(one & other), len(mine & theirs))
                    self.assertEqual(one | other, space_of(prime, size, rows + others))
                    self.assertIs(one.within(other), mine <= theirs)
                    self.assertIs(one == other, mine == theirs)
                    self.assertIs(one != other, mine != theirs)

    def test_joined_and_common_sums_of_greater_spaces(self):
        rows = [(1, 2, 0, 4), (0, 1, 1, 1), (3, 0, 2, 0), (0, 0, 4, 3)]
        one, other = space_of(5, 4, rows[:2]), space_of(5, 4, [rows[1], rows[2]])
        both = span_of(5, 4, rows[:2]) & span_of(5, 4, [rows[1], rows[2]])
        self.assertEqual({factors for factors in data_of(5, 4) if Sum(5, factors) in one & other}, both)
        joined = span_of(5, 4, rows[:3])
        self.assertEqual({factors for factors in data_of(5, 4) if Sum(5, factors) in one | other}, joined)
        self.assertEqual(((one & other).prime, (one | other).size), (5, 4))

    def test_wrong_operands(self):
        space = Space(3, 2, [Sum(3, (1, 0))])
        for other in ODD + [0, [], Sum(3, (1, 0)), Space(3, 1), Space(3, 3), Space(2, 2), [Sum(3, (1, 0))]]:
            self.assertIs(raised(InvalidOperand, lambda: space | other).other, other)
            self.assertIs(raised(InvalidOperand, lambda: space & other).other, other)
            self.assertIs(raised(InvalidOperand, space.within, other).other, other)
        self.assertIs(space.within(other=space), True)

    def test_equality(self):
        space = space_of(3, 2, [(1, 2), (2, 1)])
        self.assertTrue(space == space_of(3, 2, [(2, 1)]))
        self.assertFalse(space != space_of(3, 2, [(2, 1)]))
        others = [space_of(3, 2, [(1, 1)]), Space(3, 2), Space(3, 1), space_of(5, 2, [(1, 2)]), list(space)]
        for other in others + ODD + [space.reduced_sums, Sum(3, (1, 2))]:
            self.assertFalse(space == other)
            self.assertTrue(space != other)
        self.assertFalse(Space(2, 1) == Space(2, 2))
        self.assertFalse(Space(2, 1) == Space(3, 1))
        self.assertFalse(space.__eq__(EqualToAll()))

    def test_wrong_prime_then_size_then_sums(self):
        for prime in NO_INTEGERS + [0, 1, 4, 11, -2]:
            self.assertIs(raised(InvalidNumber, Space, prime, "size", "sums").value, prime)
        for prime, greatest in SIZES.items():
            for size in NO_INTEGERS + [0, -1, greatest + 1]:
                self.assertIs(raised(InvalidNumber, Space, prime, size, "sums").value, size)

    def test_wrong_sums(self):
        for sums in NO_LISTS + [Sum(3, (1, 0)), Space(3, 2)]:
            self.assertIs(raised(InvalidSum, Space, 3, 2, sums).value, sums)
        good = Sum(3, (1, 0))
        for item in ODD + [0, (1, 0), [good], Sum(3, (1,)), Sum(2, (1, 0)), Space(3, 2)]:
            self.assertIs(raised(InvalidSum, Space, 3, 2, [good, item, "later"]).value, item)
            self.assertIs(raised(InvalidSum, Space, 3, 2, (item, good)).value, item)

    def test_no_reference_kept(self):
        sums = [Sum(3, (1, 0))]
        space = Space(3, 2, sums)
        sums.append(Sum(3, (0, 1)))
        self.assertEqual(len(space), 1)


if __name__ == "__main__":
    unittest.main()
