"""How much of chances is made of fine tables: parts and price lists, mixtures, and what leads chances of two rooms."""

from math import gcd, lcm

from onestory.chances import need_chances, weighed_cells, weights_at
from onestory.errors import BadChances, BadPart, BadPrices, TooMany
from onestory.fairness import is_fair
from onestory.fine import is_fine
from onestory.picks import Picks
from onestory.scales import Scales
from onestory.shapes import is_below, is_number, is_row, rows
from onestory.sketches import ascends
from onestory.tables import Table, brought

MOST_INSIDE = 200


def inside(chances):
    """The list of all fine Tables whose delivery at each sending comes of it, ascending by their notes."""
    need_chances(chances)
    found = Picks(chances).all_tables(MOST_INSIDE)
    if found is None:
        raise TooMany(MOST_INSIDE)
    return found


def is_inside(chances, thing):
    """Whether any value is such a Table."""
    if not isinstance(thing, Table) or thing.sends != chances.sends or thing.takes != chances.takes:
        return False
    comes = [received in dict(pairs) for received, pairs in zip(thing.notes, chances.weights)]
    return all(comes) and is_fine(thing)


def are_counted(chances, thing):
    """Whether any value is a list of pairs of a number from 1 on and such a Table, ascending by their notes."""
    if not isinstance(thing, (list, tuple)) or not all([is_counted(chances, pair) for pair in thing]):
        return False
    return ascends([table.notes for _, table in thing])


def is_counted(chances, thing):
    if not isinstance(thing, tuple) or len(thing) != 2:
        return False
    return is_number(thing[0]) and thing[0] >= 1 and is_inside(chances, thing[1])


def sums_of(chances, pairs):
    """The dict from all cells to the sums of the counts of the tables, all of them inside, that bring them."""
    found = {cell: 0 for cell, _ in weighed_cells(chances)}
    for count, table in pairs:
        for cell in zip(rows(chances.sends), table.notes):
            found[cell] += count
    return found


def is_part(chances, thing):
    """Whether any value is a part of the chances."""
    need_chances(chances)
    if not isinstance(thing, tuple) or len(thing) != 2 or not is_number(thing[0]) or thing[0] < 1:
        return False
    scale, pairs = thing
    if not are_counted(chances, pairs):
        return False
    sums = sums_of(chances, pairs)
    return all([sums[cell] <= scale * many for cell, many in weighed_cells(chances)])


def in_least_terms(over, under):
    common = gcd(over, under)
    return (over // common, under // common)


def share_of(chances, part):
    """The share of the part: the sum of its counts to its scale times the total."""
    if not is_part(chances, part):
        raise BadPart("no part of the chances")
    return in_least_terms(sum([count for count, _ in part[1]]), part[0] * chances.total)


def is_price_list(chances, thing):
    """Whether any value is a price list of the chances."""
    tables = inside(chances)
    if not isinstance(thing, tuple) or len(thing) != 2 or not is_number(thing[0]) or thing[0] < 1:
        return False
    unit, prices = thing
    if not isinstance(prices, dict) or not all([is_priced(chances, cell, price) for cell, price in prices.items()]):
        return False
    cells = [cell for cell, _ in weighed_cells(chances)]
    if len(prices) != len(cells) or not all([cell in prices for cell in cells]):
        return False
    return all([sum([price for cell, price in prices.items() if brought(table, cell[0]) == cell[1]]) >= unit
                for table in tables])


def is_priced(chances, cell, price):
    """Whether any values are a pair of a sending and a delivery, and a number from 0 on."""
    if not isinstance(cell, tuple) or len(cell) != 2:
        return False
    return is_row(cell[0], chances.sends) and is_row(cell[1], chances.takes) and is_number(price) and price >= 0


def bound_of(chances, prices):
    """The bound of the price list: what all weights cost, to its unit times the total."""
    if not is_price_list(chances, prices):
        raise BadPrices("no price list of the chances")
    unit, told = prices
    return in_least_terms(sum([many * told[cell] for cell, many in weighed_cells(chances)]), unit * chances.total)


def bins_of(chances, tables):
    """The dict from lots of tables to the least weight of a cell that just these bring, and this cell."""
    found = {}
    for cell, many in weighed_cells(chances):
        lot = tuple([at for at, table in enumerate(tables) if brought(table, cell[0]) == cell[1]])
        # A cell that no table brings bounds nothing, nor does one that just the same tables bring and that weighs more.
        if lot and (lot not in found or many < found[lot][0]):
            found[lot] = (many, cell)
    return found


def balanced(bins, many):
    """The scales of so many tables, with what stands in the bins as bounds, balanced."""
    scales = Scales(list(bins), [bound for bound, _ in bins.values()], many)
    scales.balance()
    return scales


def greatest_part(chances):
    """A part of the greatest share, in least numbers."""
    tables = inside(chances)
    counts = balanced(bins_of(chances, tables), len(tables)).counts()
    least = [in_least_terms(count, times) for count, times in counts]
    scale = 1
    for _, under in least:
        scale = lcm(scale, under)
    return (scale, [(over * (scale // under), table) for (over, under), table in zip(least, tables) if over > 0])


def fine_share(chances):
    """The greatest share of a part."""
    scale, pairs = greatest_part(chances)
    return in_least_terms(sum([count for count, _ in pairs]), scale * chances.total)


def least_prices(chances):
    """A price list of the least bound, in least numbers."""
    tables = inside(chances)
    bins = bins_of(chances, tables)
    amounts, unit = balanced(bins, len(tables)).prices()
    priced = {cell: price for (_, cell), price in zip(list(bins.values()), amounts)}
    common = unit
    for price in amounts:
        common = gcd(common, price)
    return (unit // common, {cell: priced.get(cell, 0) // common for cell, _ in weighed_cells(chances)})


def mixture(chances):
    """Fine tables with shares that are the chances together; None if there are none."""
    scale, pairs = greatest_part(chances)
    # Where nothing is left over, the sums are scale times the weights. So what divides all counts divides the scale,
    # as the weights have no common divisor; and with it they have none.
    return pairs if sum([count for count, _ in pairs]) == scale * chances.total else None


def is_mixture(chances, thing):
    """Whether any value is a mixture of the chances."""
    need_chances(chances)
    if not are_counted(chances, thing) or len(thing) == 0:
        return False
    whole = sum([count for count, _ in thing])
    sums = sums_of(chances, thing)
    return all([sums[cell] * chances.total == whole * many for cell, many in weighed_cells(chances)])


def need_two_rooms(chances):
    need_chances(chances)
    if len(chances.sends) != 2:
        raise BadChances("no Chances of two rooms")


def all_deliveries(chances):
    """The ascending list of the deliveries that come of some sending."""
    return sorted(set([received for (_, received), _ in weighed_cells(chances)]))


def led(chances):
    """How often each of the two rooms leads to which delivery; None if the chances are not fair."""
    need_two_rooms(chances)
    if not is_fair(chances):
        return None
    first = {}
    second = {}
    deliveries = all_deliveries(chances)
    for received in deliveries:
        # The weight is a sum of what hangs on the one room and what hangs on the other, as signed sums of both are 0.
        # So it is least for the same number of room 0, whatever room 1 sends; what is left there is room 1's.
        column = [weight_of(chances, (number, 0), received) for number in range(chances.sends[0])]
        least = column.index(min(column))
        for number in range(chances.sends[0]):
            first[(number, received)] = column[number] - column[least]
        for number in range(chances.sends[1]):
            second[(number, received)] = weight_of(chances, (least, number), received)
    return (1, {key: first[key] for key in sorted(first)}, {key: second[key] for key in sorted(second)})


def weight_of(chances, sent, received):
    return dict(weights_at(chances, sent)).get(received, 0)


def is_led(chances, thing):
    """Whether any value tells how often each of the two rooms leads to which delivery."""
    need_two_rooms(chances)
    if not isinstance(thing, tuple) or len(thing) != 3 or not is_number(thing[0]) or thing[0] < 1:
        return False
    scale, first, second = thing
    deliveries = all_deliveries(chances)
    if not is_lead(chances, 0, deliveries, first) or not is_lead(chances, 1, deliveries, second):
        return False
    one, other = chances.sends
    return all([first[(x, received)] + second[(y, received)] == scale * weight_of(chances, (x, y), received)
                for x in range(one) for y in range(other) for received in deliveries])


def is_lead(chances, room, deliveries, thing):
    """Whether any value has numbers for what the room sends and each delivery, in which it does not hear itself."""
    if not isinstance(thing, dict) or len(thing) != chances.sends[room] * len(deliveries):
        return False
    if not all([is_led_number(chances, room, deliveries, key, number) for key, number in thing.items()]):
        return False
    sums = [[sum([thing[(number, received)] for received in deliveries if received[room] == note])
             for note in range(chances.takes[room])] for number in range(chances.sends[room])]
    return all([line == sums[0] for line in sums])


def is_led_number(chances, room, deliveries, key, number):
    if not isinstance(key, tuple) or len(key) != 2 or not is_number(number) or number < 0:
        return False
    return is_below(key[0], chances.sends[room]) and is_row(key[1], chances.takes) and key[1] in deliveries
