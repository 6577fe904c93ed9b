import unittest
from inspect import isgenerator

from leastreads.errors import InvalidData, InvalidNumber, InvalidOperand, InvalidSum
from leastreads.stored import Stored
from leastreads.sums import Sum, all_data, is_data, is_prime, is_size
from support import NO_INTEGERS, NO_LISTS, ODD, SIZES, EqualToAll, data_of, raised, value_of

NO_PRIMES = NO_INTEGERS + [-2, 0, 1, 4, 6, 8, 9, 11, 49, 10**25]


class PrimesTest(unittest.TestCase):
    def test_primes(self):
        self.assertEqual([number for number in range(-10, 100) if is_prime(number)], [2, 3, 5, 7])
        for value in [*SIZES, *NO_PRIMES]:
            self.assertIs(is_prime(value), any(value is prime for prime in SIZES), value)
        self.assertIs(is_prime(value=2), True)

    def test_sizes(self):
        for prime, greatest in SIZES.items():
            fitting = [size for size in range(-3, 20) if is_size(prime, size)]
            self.assertEqual(fitting, list(range(1, greatest + 1)))
            self.assertLessEqual(prime**greatest, 4096)
            self.assertTrue(greatest == 6 or prime ** (greatest + 1) > 4096)
            for value in NO_INTEGERS:
                self.assertIs(is_size(prime, value), False)
        self.assertIs(is_size(prime=7, value=4), True)
        self.assertIs(is_size(7, 10**25), False)

    def test_no_size_for_what_is_no_prime(self):
        for prime in NO_PRIMES:
            self.assertIs(is_size(prime, 1), False)

    def test_data(self):
        for value in [(0, 2), [0, 2], (1, 1), [2, 2]]:
            self.assertIs(is_data(3, 2, value), True)
        for value in [(), (0,), (0, 1, 2), (0, 3), (-1, 0), (0, True), (False, 0), (0, None), (0, 1.0), (0, "1")]:
            self.assertIs(is_data(3, 2, value), False, value)
            self.assertIs(is_data(3, 2, list(value)), False, value)
        for value in NO_LISTS:
            self.assertIs(is_data(3, 2, value), False)
        self.assertIs(is_data(prime=2, size=1, value=(1,)), True)

    def test_data_of_each_prime_and_size(self):
        for prime, greatest in SIZES.items():
            for size in range(1, greatest + 1):
                self.assertIs(is_data(prime, size, (prime - 1,) * size), True)
                self.assertIs(is_data(prime, size, (prime,) + (0,) * (size - 1)), False)
                self.assertIs(is_data(prime, size, (0,) * (size + 1)), False)
                self.assertIs(is_data(prime, size, (0,) * (size - 1)), False)
            self.assertIs(is_data(prime, greatest + 1, (0,) * (greatest + 1)), False)

    def test_no_data_for_wrong_primes_and_sizes(self):
        for prime in NO_PRIMES:
            self.assertIs(is_data(prime, 1, (0,)), False)
        for size in NO_INTEGERS + [-1, 0, 7]:
            self.assertIs(is_data(2, size, (0,)), False)
            self.assertIs(is_data(2, size, ()), False)
        self.assertIs(is_data(2, True, (0,)), False)


class AllDataTest(unittest.TestCase):
    def test_all_data_once_and_ascending(self):
        for prime, greatest in SIZES.items():
            for size in range(1, greatest + 1):
                rows = list(all_data(prime, size))
                self.assertEqual(rows, data_of(prime, size))
                self.assertEqual(len(rows), prime**size)
                self.assertTrue(all(one < other for one, other in zip(rows, rows[1:])))
                self.assertTrue(all(is_data(prime, size, row) and isinstance(row, tuple) for row in rows))

    def test_it_is_a_generator(self):
        rows = all_data(prime=2, size=2)
        self.assertTrue(isgenerator(rows))
        self.assertEqual([next(rows), next(rows)], [(0, 0), (0, 1)])

    def test_wrong_prime_then_wrong_size(self):
        for prime in NO_PRIMES:
            self.assertIs(raised(InvalidNumber, lambda: list(all_data(prime, "size"))).value, prime)
        for prime, greatest in SIZES.items():
            for size in NO_INTEGERS + [-1, 0, greatest + 1]:
                self.assertIs(raised(InvalidNumber, lambda: list(all_data(prime, size))).value, size)


class SumTest(unittest.TestCase):
    def test_example(self):
        one, other = Sum(5, (1, 2)), Sum.unit(5, 2, 1)
        found = [(one + other).factors, (one * -1).factors, one((3, 4)), (one - one).is_zero]
        self.assertEqual(found, [(1, 3), (4, 3), 1, True])

    def test_properties(self):
        for prime, greatest in SIZES.items():
            for size in range(1, greatest + 1):
                for factors in [(0,) * size, (prime - 1,) * size, tuple(k % prime for k in range(size))]:
                    item = Sum(prime, factors)
                    told = (item.prime, item.factors, item.size, item.is_zero)
                    self.assertEqual(told, (prime, factors, size, not any(factors)))
                    self.assertIs(item.is_zero, not any(factors))
                    self.assertIsInstance(item.factors, tuple)

    def test_lists_and_tuples_alike_and_no_reference_kept(self):
        factors = [1, 2]
        item = Sum(factors=factors, prime=3)
        self.assertEqual(item, Sum(3, (1, 2)))
        factors[0] = 0
        self.assertEqual(item.factors, (1, 2))

    def test_sums_do_not_change(self):
        item = Sum(3, (1, 2))
        for name in ["prime", "factors", "size", "is_zero"]:
            self.assertRaises(AttributeError, setattr, item, name, 1)
        _ = (item + item, item - item, item * 2, -item)
        self.assertEqual(item, Sum(3, (1, 2)))

    def test_wrong_prime_first(self):
        for prime in NO_PRIMES:
            self.assertIs(raised(InvalidSum, Sum, prime, "factors").value, prime)
            self.assertIs(raised(InvalidSum, Sum, prime, (0,)).value, prime)

    def test_wrong_factors(self):
        for prime, greatest in SIZES.items():
            wrong = [[], (), (0,) * (greatest + 1), [0] * (greatest + 1), (prime,), (-1,), (0, prime), (0, -1)]
            wrong += [(0, item) for item in NO_INTEGERS] + [[item] for item in NO_INTEGERS] + NO_LISTS
            for factors in wrong:
                self.assertIs(raised(InvalidSum, Sum, prime, factors).value, factors)

    def test_units(self):
        for prime, greatest in SIZES.items():
            for size in range(1, greatest + 1):
                for index in range(size):
                    factors = tuple(int(place == index) for place in range(size))
                    self.assertEqual(Sum.unit(prime, size, index).factors, factors)
                    self.assertEqual(Sum.unit(index=index, size=size, prime=prime).prime, prime)

    def test_wrong_units(self):
        for prime in NO_PRIMES:
            self.assertIs(raised(InvalidNumber, Sum.unit, prime, 0, -1).value, prime)
        for size in NO_INTEGERS + [-1, 0, 7, 10**25]:
            self.assertIs(raised(InvalidNumber, Sum.unit, 2, size, -1).value, size)
        self.assertEqual(raised(InvalidNumber, Sum.unit, 7, 5, 0).value, 5)
        for index in NO_INTEGERS + [-1, 2, 10**25]:
            self.assertIs(raised(InvalidNumber, Sum.unit, 2, 2, index).value, index)

    def test_values(self):
        for prime, size in [(2, 3), (3, 2), (5, 2), (7, 1)]:
            for factors in data_of(prime, size):
                item = Sum(prime, factors)
                for data in data_of(prime, size):
                    self.assertEqual(item(data), value_of(prime, factors, data))
                    self.assertEqual(item(data=list(data)), value_of(prime, factors, data))

    def test_greatest_values(self):
        self.assertEqual(Sum(7, (6, 6, 6, 6))((6, 6, 6, 6)), 4)
        self.assertEqual(Sum(5, (4,) * 5)((4,) * 5), 0)
        self.assertEqual(Sum(2, (1,) * 6)((1,) * 6), 0)

    def test_values_of_wrong_data(self):
        item = Sum(3, (1, 2))
        wrong = [(), (0,), (0, 0, 0), (0, 3), [-1, 0], (0, True), [False, 0], (0, None), ((0, 0),)]
        for data in wrong + NO_LISTS:
            self.assertIs(raised(InvalidData, item, data).value, data)

    def test_adding_and_subtracting_factor_by_factor(self):
        for prime, size in [(2, 3), (3, 2), (5, 2), (7, 1)]:
            for one in data_of(prime, size):
                for other in data_of(prime, size):
                    total, left = Sum(prime, one) + Sum(prime, other), Sum(prime, one) - Sum(prime, other)
                    self.assertEqual(total.factors, tuple((a + b) % prime for a, b in zip(one, other)))
                    self.assertEqual(left.factors, tuple((a - b) % prime for a, b in zip(one, other)))
                    self.assertEqual((total.prime, left.prime), (prime, prime))

    def test_multiplying_by_any_integer(self):
        for prime, size in [(2, 2), (3, 2), (5, 1), (7, 1)]:
            for factors in data_of(prime, size):
                for number in [*range(-8, 9), 10**29, -(10**29)]:
                    told = (Sum(prime, factors) * number).factors
                    self.assertEqual(told, tuple(factor * number % prime for factor in factors))
                self.assertEqual((-Sum(prime, factors)).factors, tuple(-factor % prime for factor in factors))

    def test_wrong_operands(self):
        item = Sum(3, (1, 2))
        strange = [Sum(5, (1, 2)), Sum(3, (1,)), Sum(3, (1, 2, 0)), (1, 2), [1, 2], Stored([(1, 2)])]
        for other in ODD + strange + [0, 1]:
            self.assertIs(raised(InvalidOperand, lambda: item + other).other, other)
            self.assertIs(raised(InvalidOperand, lambda: item - other).other, other)
        for number in NO_INTEGERS + strange + [item]:
            self.assertIs(raised(InvalidOperand, lambda: item * number).other, number)

    def test_equality(self):
        self.assertTrue(Sum(3, (1, 2)) == Sum(3, [1, 2]))
        self.assertFalse(Sum(3, (1, 2)) != Sum(3, [1, 2]))
        for other in [Sum(5, (1, 2)), Sum(3, (2, 1)), Sum(3, (1, 2, 0)), (1, 2), [1, 2], *ODD]:
            self.assertFalse(Sum(3, (1, 2)) == other)
            self.assertTrue(Sum(3, (1, 2)) != other)
        self.assertFalse(Sum(2, (1,)).__eq__(EqualToAll()))


if __name__ == "__main__":
    unittest.main()
