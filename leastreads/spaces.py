"""Spaces of sums, told by their reduced sums, and the data for which these are 0."""

from leastreads.errors import InvalidOperand, InvalidSum
from leastreads.sums import Sum, expect_prime_and_size, is_sum


def minus(prime, row, other, times):
    """Return a row of factors less a multiple of another one."""
    return tuple([(one - times * two) % prime for one, two in zip(row, other)])


def remainder(prime, reduced, row):
    """Return what is left of a row when it is made 0 wherever a reduced row leads."""
    for lead in reduced:
        # The first factor of a reduced row that is not 0 is 1.
        row = minus(prime, row, lead, row[lead.index(1)])
    return row


def led_by_one(prime, row):
    """Return the multiple of a row, not all zeros, whose first factor that is not 0 is 1."""
    first = [factor for factor in row if factor != 0][0]
    times = [number for number in range(prime) if number * first % prime == 1][0]
    return tuple([factor * times % prime for factor in row])


def reduced_rows(prime, rows):
    """Return the list of the reduced rows that give the same as these rows."""
    reduced = []
    for row in rows:
        rest = remainder(prime, reduced, row)
        if any(rest):
            lead = led_by_one(prime, rest)
            others = [remainder(prime, [lead], other) for other in reduced]
            # Of reduced rows the greater tuple is the one that leads at the earlier place.
            reduced = sorted([lead, *others], reverse=True)
    return reduced


def zero_row(prime, size, reduced, free):
    """Return the data with 1 at a place where no row leads, 0 at all other such places, made 0 by all rows."""
    forced = {row.index(1): -row[free] % prime for row in reduced}
    return tuple([1 if place == free else forced.get(place, 0) for place in range(size)])


def zero_rows(prime, size, reduced):
    """Return the list of the reduced rows that give all data for which these reduced rows are 0."""
    leads = [row.index(1) for row in reduced]
    rows = [zero_row(prime, size, reduced, place) for place in range(size) if place not in leads]
    return reduced_rows(prime, rows)


def given_rows(prime, size, reduced):
    """Return the ascending list of all rows that these reduced rows give."""
    rows = [(0,) * size]
    for lead in reduced:
        rows = [minus(prime, row, lead, -times) for row in rows for times in range(prime)]
    return rows


def blind_for(space, items):
    """Return the first data, ascending, for which the space is 0 and some of these Sums is not, or None."""
    rows = [item.factors for item in space.reduced_sums]
    leads = zero_rows(space.prime, space.size, rows)
    # Data come the earlier, the later the first of these rows leads that they are made of.
    for data in reversed(list(leads)):
        if any([item(data) for item in items]):
            return data
    return None


class Space:
    """Some sums of one prime and size, and all sums that they give."""

    def __init__(self, prime, size, sums=()):
        expect_prime_and_size(prime, size)
        if not isinstance(sums, (list, tuple)):
            raise InvalidSum(sums)
        for item in sums:
            if not is_sum(prime, size, item):
                raise InvalidSum(item)
        self._prime = prime
        self._size = size
        self._rows = reduced_rows(prime, [item.factors for item in sums])
        self._reduced = tuple([Sum(prime, row) for row in self._rows])

    @property
    def prime(self):
        """The prime."""
        return self._prime

    @property
    def size(self):
        """The size."""
        return self._size

    @property
    def reduced_sums(self):
        """The tuple of the reduced sums."""
        return self._reduced

    @property
    def is_whole(self):
        """Whether the space has all sums."""
        return len(self._reduced) == self._size

    def __len__(self):
        return len(self._reduced)

    def __iter__(self):
        return iter(self._reduced)

    def __contains__(self, x):
        if not is_sum(self._prime, self._size, x):
            return False
        return not any(remainder(self._prime, self._rows, x.factors))

    def __or__(self, other):
        self._expect_operand(other)
        return Space(self._prime, self._size, (*self._reduced, *other._reduced))

    def __and__(self, other):
        self._expect_operand(other)
        ours = zero_rows(self._prime, self._size, self._rows)
        theirs = zero_rows(self._prime, self._size, other._rows)
        # Both spaces have just those sums that are 0 for all data that either of them makes 0.
        joined = reduced_rows(self._prime, [*ours, *theirs])
        rows = zero_rows(self._prime, self._size, joined)
        return Space(self._prime, self._size, [Sum(self._prime, row) for row in rows])

    def __eq__(self, other):
        return (
            isinstance(other, Space)
            and self._prime == other._prime
            and self._size == other._size
            and self._rows == other._rows
        )

    def within(self, other):
        """Return whether another space has all sums of this one."""
        self._expect_operand(other)
        return all([item in other for item in self._reduced])

    def blind_data(self, item):
        """Return the first blind data for a Sum, ascending, or None."""
        if not is_sum(self._prime, self._size, item):
            raise InvalidSum(item)
        return blind_for(self, [item])

    def zeros(self):
        """Generate all data for which all sums of the space are 0, ascending."""
        leads = zero_rows(self._prime, self._size, self._rows)
        for data in given_rows(self._prime, self._size, leads):
            yield data

    def _expect_operand(self, other):
        if not isinstance(other, Space) or other._prime != self._prime or other._size != self._size:
            raise InvalidOperand(other)
