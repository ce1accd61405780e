"""What values are: numbers, tuples of numbers below given sizes, and the ascending lists of these."""

MOST_ROOMS = 6
MOST_NUMBERS = 64
MOST_SENDINGS = 64


def is_number(thing):
    # Python takes True for an int; here a bool is no number.
    return isinstance(thing, int) and not isinstance(thing, bool)


def is_below(thing, size):
    """Whether it is a number from 0 to size - 1."""
    return is_number(thing) and 0 <= thing < size


def is_row(thing, sizes):
    """Whether it is a tuple with a number below each of the sizes."""
    if not isinstance(thing, tuple) or len(thing) != len(sizes):
        return False
    return all([is_below(number, size) for number, size in zip(thing, sizes)])


def are_sizes(thing):
    """Whether it is a tuple of numbers from 1 to 64."""
    if not isinstance(thing, tuple):
        return False
    return all([is_number(size) and 1 <= size <= MOST_NUMBERS for size in thing])


def are_sends(thing):
    """Whether it is a tuple that tells what the rooms of a table can send."""
    if not are_sizes(thing) or not 1 <= len(thing) <= MOST_ROOMS:
        return False
    return multiplied(thing) <= MOST_SENDINGS


def are_takes(thing, rooms):
    """Whether it is a tuple that tells what so many rooms can receive."""
    return are_sizes(thing) and len(thing) == rooms


def multiplied(numbers):
    """The product of the numbers."""
    found = 1
    for number in numbers:
        found = found * number
    return found


def powered(base, times):
    """The base, so many times multiplied with itself."""
    return multiplied([base] * times)


def rows(sizes):
    """The ascending list of all tuples with a number below each of the sizes."""
    found = [()]
    for size in sizes:
        found = [row + (number,) for row in found for number in range(size)]
    return found


def place(sizes, row):
    """The index of the row in the list of all rows of these sizes."""
    at = 0
    for size, number in zip(sizes, row):
        at = at * size + number
    return at


def put_in(row, room, number):
    """The row in which the room has this number, and the others what they had."""
    return row[:room] + (number,) + row[room + 1:]


def without(room, row):
    """The row of all rooms but this one."""
    return row[:room] + row[room + 1:]


def joined(room, number, rest):
    """The row in which this room has the number and the others the rest."""
    return rest[:room] + (number,) + rest[room:]


def bits_by(lines, room):
    """For each number that stands at the room in some lines the set of these, told by bits."""
    found = {}
    for at, line in enumerate(lines):
        found[line[room]] = found.get(line[room], 0) | 1 << at
    return found
