"""Primes, sizes, data, and sums of data values with factors."""

from leastreads.basics import all_between, all_tuples, has_items, is_between, is_integer
from leastreads.errors import InvalidData, InvalidNumber, InvalidOperand, InvalidSum

# The primes, each with its greatest size: prime ** size is at most 4096, and a size at most 6.
GREATEST_SIZES = {2: 6, 3: 6, 5: 5, 7: 4}


def is_prime(value):
    """Return whether any object is a prime."""
    return is_integer(value) and value in GREATEST_SIZES


def is_size(prime, value):
    """Return whether any object is a size for this prime."""
    return is_prime(prime) and is_between(value, 1, GREATEST_SIZES[prime])


def is_data(prime, size, value):
    """Return whether any object is data."""
    return is_size(prime, size) and has_items(value, size, size) and all_between(value, 0, prime - 1)


def expect_prime_and_size(prime, size):
    """Raise InvalidNumber for a wrong prime, then for a wrong size."""
    if not is_prime(prime):
        raise InvalidNumber(prime)
    if not is_size(prime, size):
        raise InvalidNumber(size)


def all_data(prime, size):
    """Generate all data, ascending."""
    expect_prime_and_size(prime, size)
    for data in all_tuples(prime, size):
        yield data


def is_sum(prime, size, value):
    """Return whether any object is a Sum of this prime and size."""
    return isinstance(value, Sum) and value.prime == prime and value.size == size


class Sum:
    """A sum of data values with factors, modulo a prime."""

    def __init__(self, prime, factors):
        if not is_prime(prime):
            raise InvalidSum(prime)
        if not has_items(factors, 1, GREATEST_SIZES[prime]) or not all_between(factors, 0, prime - 1):
            raise InvalidSum(factors)
        self._prime = prime
        self._factors = tuple(factors)

    @staticmethod
    def unit(prime, size, index):
        """Return the sum with the factor 1 at this index and 0 elsewhere."""
        expect_prime_and_size(prime, size)
        if not is_between(index, 0, size - 1):
            raise InvalidNumber(index)
        return Sum(prime, [1 if place == index else 0 for place in range(size)])

    @property
    def prime(self):
        """The prime."""
        return self._prime

    @property
    def factors(self):
        """The tuple of the factors."""
        return self._factors

    @property
    def size(self):
        """The number of factors."""
        return len(self._factors)

    @property
    def is_zero(self):
        """Whether all factors are 0."""
        return not any(self._factors)

    def __call__(self, data):
        """Return the value for these data."""
        if not is_data(self._prime, len(self._factors), data):
            raise InvalidData(data)
        return sum([factor * value for factor, value in zip(self._factors, data)]) % self._prime

    def __add__(self, other):
        if not is_sum(self._prime, len(self._factors), other):
            raise InvalidOperand(other)
        pairs = list(zip(self._factors, other.factors))
        return Sum(self._prime, [(one + two) % self._prime for one, two in pairs])

    def __sub__(self, other):
        if not is_sum(self._prime, len(self._factors), other):
            raise InvalidOperand(other)
        pairs = list(zip(self._factors, other.factors))
        return Sum(self._prime, [(one - two) % self._prime for one, two in pairs])

    def __mul__(self, other):
        if not is_integer(other):
            raise InvalidOperand(other)
        return Sum(self._prime, [factor * other % self._prime for factor in self._factors])

    def __neg__(self):
        return Sum(self._prime, [-factor % self._prime for factor in self._factors])

    def __eq__(self, other):
        return isinstance(other, Sum) and self._prime == other._prime and self._factors == other._factors
