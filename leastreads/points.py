"""Points: data whose first value that is not 0 is 1, and which of them sums see, that is, are not 0 for.

A sum is 0 for data exactly if it is 0 for their multiples. So a sum can be had from others exactly if these see all
points that it sees, and the first data that show that it cannot be had are a point. Points are kept as the bits of
an integer, the first one as the lowest bit.
"""


def all_values(prime, factors):
    """Return the list of the values of a sum, by its factors, for all data, ascending."""
    values = [0]
    for factor in factors:
        values = [(value + factor * number) % prime for value in values for number in range(prime)]
    return values


def point_places(prime, size):
    """Return the ascending list of the places of all points among all data."""
    places = []
    first = 1
    for _ in range(size):
        places = [*places, *[first + place for place in range(first)]]
        first = first * prime
    return places


def data_at(prime, size, place):
    """Return the data at a place among all data."""
    data = ()
    for _ in range(size):
        data = (place % prime, *data)
        place = place // prime
    return data


def first_of(points):
    """Return the first one of some points, at least one."""
    return points & -points


class Sight:
    """Which points the spots of a table and further sums see."""

    def __init__(self, table):
        self._prime = table.prime
        self._size = table.size
        self._places = point_places(table.prime, table.size)
        self._seen = {spot: self.by_sums([table[spot]]) for spot in table}

    def by_sums(self, items):
        """Return the points that some Sums of the table's prime and size see."""
        points = 0
        for item in items:
            values = all_values(self._prime, item.factors)
            for index, place in enumerate(self._places):
                if values[place] != 0:
                    points = points | (1 << index)
        return points

    def by_spots(self, spots):
        """Return the points that some spots see."""
        points = 0
        for spot in spots:
            points = points | self._seen[spot]
        return points

    def data_of(self, points):
        """Return the ascending list of the data that some points are."""
        places = [place for index, place in enumerate(self._places) if (points >> index) & 1]
        return [data_at(self._prime, self._size, place) for place in places]
