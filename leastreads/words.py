"""Words of texts, journals and commands: integers, lists of them, and spots."""

MOST_DIGITS = 30


def is_number(word):
    """Return whether a word is an integer: decimal digits, without a sign or leading zeros."""
    if not word.isascii() or not word.isdigit() or len(word) > MOST_DIGITS:
        return False
    return word == "0" or not word.startswith("0")


def are_numbers(word):
    """Return whether a word is at least one integer, separated by commas."""
    return all([is_number(part) for part in word.split(",")])


def numbers_in(word):
    """Return the tuple of the integers in a word of them."""
    return tuple([int(part) for part in word.split(",")])


def is_spot_word(word):
    """Return whether a word is two integers, separated by a dot."""
    parts = word.split(".")
    return len(parts) == 2 and all([is_number(part) for part in parts])


def spot_in(word):
    """Return the spot that a word is."""
    piece, part = word.split(".")
    return (int(piece), int(part))


def is_product_word(word):
    """Return whether a word is an integer and a spot, separated by a star."""
    parts = word.split("*")
    return len(parts) == 2 and is_number(parts[0]) and is_spot_word(parts[1])


def product_in(word):
    """Return (spot, factor) of a word that is an integer and a spot."""
    factor, spot = word.split("*")
    return (spot_in(spot), int(factor))


def is_change_word(word):
    """Return whether a word is at least one pair of integers, `INDEX=VALUE`, separated by commas."""
    pairs = [part.split("=") for part in word.split(",")]
    return all([len(pair) == 2 and is_number(pair[0]) and is_number(pair[1]) for pair in pairs])


def changes_in(word):
    """Return the tuple of the pairs (index, value) in a word of them."""
    pairs = [part.split("=") for part in word.split(",")]
    return tuple([(int(index), int(value)) for index, value in pairs])


def numbers_word(numbers):
    """Return integers as a word."""
    return ",".join([str(number) for number in numbers])


def spot_word(spot):
    """Return a spot as a word."""
    return f"{spot[0]}.{spot[1]}"


def changes_word(changes):
    """Return pairs (index, value) as a word."""
    return ",".join([f"{index}={value}" for index, value in changes])
