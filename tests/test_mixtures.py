"""[102] Fine parts and price lists; [103] mixtures, and what leads chances of two rooms."""

import random
from fractions import Fraction
from itertools import product
from math import gcd

from onestory.chances import Chances, blended, cells, odd_ring, weight
from onestory.closings import closed
from onestory.errors import BadChances, BadPart, BadPrices, TooMany
from onestory.fairness import is_fair, mean_closed, self_heard
from onestory.mixtures import (bound_of, fine_share, greatest_part, inside, is_led, is_mixture, is_part,
                               is_price_list, least_prices, led, mixture, share_of)
from onestory.tables import Table, quiet_table, ring_table, turning_table
from tests.samples import (Case, brings, clocked_table, deep_value, fine_of, is_exact, otherwise, plain_fine,
                           random_chances, random_table, rows, same, wandered_table, wrong_chances)

RING = ring_table((2, 2))
QUIET = quiet_table((2, 2), (2, 2))
TURNING = turning_table()
A = Table((2, 2), (2, 2), tuple((0, a) for a, _ in rows((2, 2))))
B = Table((2, 2), (2, 2), tuple((b, 0) for _, b in rows((2, 2))))
HALF = blended([(1, QUIET), (1, RING)])
# Three notes of a room at each of two sendings: nine tables, of which three are fine.
THREE = Chances((2,), (3,), ((((0,), 2), ((1,), 3), ((2,), 1)), (((0,), 3), ((1,), 1), ((2,), 2))))


def plain_inside(chances):
    choices = [[received for received, _ in line] for line in chances.weights]
    tables = [Table(chances.sends, chances.takes, notes) for notes in product(*choices)]
    return [table for table in tables if plain_fine(table)]


def comes(chances, table):
    return all(weight(chances, sent, received) for sent, received in brings(table).items())


def plain_counted(chances, thing):
    """Whether it is a list of pairs of a count and a table of inside, ascending by notes."""
    if thing.__class__ not in (list, tuple):
        return False
    for pair in thing:
        if pair.__class__ is not tuple or len(pair) != 2 or not is_exact(pair[0], int, 1):
            return False
        table = pair[1]
        if not isinstance(table, Table) or (table.sends, table.takes) != (chances.sends, chances.takes):
            return False
        if not plain_fine(table) or not comes(chances, table):
            return False
    notes = [table.notes for _, table in thing]
    return notes == sorted(set(notes))


def plain_sum(pairs, cell):
    return sum(count for count, table in pairs if brings(table)[cell[0]] == cell[1])


def plain_is_part(chances, thing):
    if thing.__class__ is not tuple or len(thing) != 2 or not is_exact(thing[0], int, 1):
        return False
    return plain_counted(chances, thing[1]) and all(
        plain_sum(thing[1], cell) <= thing[0] * weight(chances, *cell) for cell in cells(chances))


def plain_share(chances, part):
    return Fraction(sum(count for count, _ in part[1]), part[0] * chances.total)


def plain_is_price_list(chances, thing):
    if thing.__class__ is not tuple or len(thing) != 2 or not is_exact(thing[0], int, 1):
        return False
    unit, prices = thing
    if prices.__class__ is not dict or len(prices) != len(cells(chances)):
        return False
    if not all(any(same(cell, right) for right in cells(chances)) for cell in prices):
        return False
    if not all(is_exact(price, int, 0) for price in prices.values()):
        return False
    return all(sum(prices[cell] for cell in brings(table).items()) >= unit for table in plain_inside(chances))


def plain_bound(chances, thing):
    return Fraction(sum(weight(chances, *cell) * price for cell, price in thing[1].items()), thing[0] * chances.total)


def plain_is_mixture(chances, thing):
    if not plain_counted(chances, thing) or len(thing) == 0:
        return False
    whole = sum(count for count, _ in thing)
    return all(Fraction(plain_sum(thing, cell), whole) == Fraction(weight(chances, *cell), chances.total)
               for cell in cells(chances))


def pair_of(share):
    return (share.numerator, share.denominator)


def some_chances(many, seed=1020):
    """Chances of few tables: with a mixture, fair ones without, and others."""
    draw = random.Random(seed)
    found = [HALF, THREE, odd_ring(2), odd_ring(3), blended([(1, TURNING)]), blended([(2, A), (1, B), (1, QUIET)])]
    for _ in range(many):
        found += [random_chances(draw, sizes) for sizes in [((2,), (2,)), ((3,), (3,)), ((2, 2), (2, 2)),
                                                            ((2, 2), (2, 2)), ((2, 1, 2), (1, 2, 2))]]
        for sends, takes in [((2, 2), (2, 2)), ((2, 1, 2), (2, 2, 2)), ((3,), (3,)), ((2, 2, 2), (1, 1, 2))]:
            tables = [(draw.choice((1, 2, 5)), draw.choice(fine_of(sends, takes))) for _ in range(3)]
            found.append(blended(tables))
            # With something that is not fine in addition.
            found.append(blended(tables + [(draw.choice((1, 4)), random_table(draw, sends, takes))]))
        start = clocked_table(draw, (2, 2, 2), (2, 2, 2))
        found.append(blended([(draw.choice((1, 3)), wandered_table(draw, start, 4)) for _ in range(3)]))
        found.append(blended([(1, odd), (1, other), (2, start)]) if plain_fine(start) else odd_ring(3))
    return found


odd = ring_table((2, 2, 2))
other = Table(odd.sends, odd.takes, tuple(tuple(1 - note for note in received) for received in odd.notes))


def few(chances):
    many = 1
    for line in chances.weights:
        many *= len(line)
    return many <= 300


class Parts(Case):
    def test_inside(self):
        for chances in some_chances(3):
            if few(chances):
                found = inside(chances)
                self.assertIs(found.__class__, list)
                self.assertEqual(found, plain_inside(chances))
        self.assertEqual(inside(chances=HALF), [QUIET])
        self.assertEqual(inside(odd_ring(3)), [])
        for sends, takes in [((2, 2), (2, 2)), ((2, 2), (1, 3)), ((2, 1, 2), (2, 2, 2)), ((3,), (2,))]:
            line = tuple((received, 1) for received in rows(takes))
            every = Chances(sends, takes, (line,) * len(rows(sends)))
            right = fine_of(sends, takes)
            if len(right) <= 200:
                self.assertEqual(inside(every), right)
            else:
                self.assertEqual(self.refused(TooMany, inside, every).most, 200)

    def test_great_chances(self):
        draw = random.Random(1021)
        for sends, takes in [((2,) * 5, (2,) * 5), ((4, 4), (2, 3)), ((32,), (3,)), ((3, 3, 2), (2, 2, 2))]:
            start = clocked_table(draw, sends, takes)
            tables = [start] + [wandered_table(draw, start, 3) for _ in range(3)]
            chances = blended([(1, table) for table in tables])
            found = inside(chances)
            self.assertTrue(all(plain_fine(table) and comes(chances, table) for table in found))
            self.assertTrue(all(table in found for table in tables))
            self.assertEqual([table.notes for table in found], sorted({table.notes for table in found}))
            self.assertTrue(plain_is_mixture(chances, mixture(chances)))

    def test_greatest_part_and_least_prices_meet(self):
        seen = set()
        for chances in some_chances(4):
            if not few(chances):
                continue
            part, prices = greatest_part(chances), least_prices(chances)
            self.assertTrue(plain_is_part(chances, part))
            self.assertTrue(plain_is_price_list(chances, prices))
            self.assertIs(is_part(chances, part), True)
            self.assertIs(is_price_list(chances, prices), True)
            share = plain_share(chances, part)
            seen.add(0 if share == 0 else 1 if share == 1 else 2)
            # No share is above a bound: so both are shown by this.
            self.assertEqual(share, plain_bound(chances, prices))
            for found in (fine_share(chances), share_of(chances, part), bound_of(chances, prices)):
                self.assertTrue(same(found, pair_of(share)))
            self.assertEqual(gcd(part[0], *[count for count, _ in part[1]]), 1)
            self.assertEqual(gcd(prices[0], *prices[1].values()), 1)
            self.assertEqual(list(prices[1]), cells(chances))
        self.assertEqual(seen, {0, 1, 2})

    def test_heart_no_share_is_above_a_bound(self):
        draw = random.Random(1022)
        for chances in some_chances(2):
            if not few(chances):
                continue
            tables = plain_inside(chances)
            parts, lists = [(1, [])], []
            for _ in range(12):
                pairs = [(draw.choice((1, 2, 3)), table) for table in tables if draw.randrange(2)]
                scale = draw.choice((1, 2, 3, 6, 12))
                part = (scale, pairs)
                right = plain_is_part(chances, part)
                self.assertIs(is_part(chances, part), right)
                if right:
                    parts.append(part)
                    self.assertTrue(same(share_of(chances, part), pair_of(plain_share(chances, part))))
                else:
                    self.refused(BadPart, share_of, chances, part)
                thing = (draw.choice((1, 2, 4)), {cell: draw.choice((0, 0, 1, 2)) for cell in cells(chances)})
                right = plain_is_price_list(chances, thing)
                self.assertIs(is_price_list(chances, thing), right)
                if right:
                    lists.append(thing)
                    self.assertTrue(same(bound_of(chances, thing), pair_of(plain_bound(chances, thing))))
                else:
                    self.refused(BadPrices, bound_of, chances, thing)
            for part in parts:
                for thing in lists:
                    self.assertLessEqual(plain_share(chances, part), plain_bound(chances, thing))

    def test_by_hand(self):
        self.assertEqual(HALF.total, 2)
        self.assertEqual(fine_share(chances=HALF), (1, 2))
        self.assertEqual(greatest_part(chances=HALF), (1, [(1, QUIET)]))
        prices = {cell: int(cell == ((0, 1), (0, 0))) for cell in cells(HALF)}
        self.assertIs(is_price_list(chances=HALF, thing=(1, prices)), True)
        self.assertEqual(bound_of(chances=HALF, prices=(1, prices)), (1, 2))
        self.assertEqual(share_of(chances=HALF, part=(1, [(1, QUIET)])), (1, 2))
        self.assertEqual(fine_share(odd_ring(3)), (0, 1))
        self.assertEqual(greatest_part(odd_ring(3)), (1, []))
        self.assertEqual(least_prices(odd_ring(3)), (1, {cell: 0 for cell in cells(odd_ring(3))}))
        self.assertEqual(fine_share(THREE), (2, 3))
        self.assertEqual(greatest_part(THREE), (1, [(2, Table((2,), (3,), ((0,), (0,)))),
                                                    (1, Table((2,), (3,), ((1,), (1,)))),
                                                    (1, Table((2,), (3,), ((2,), (2,))))]))

    def test_is_part(self):
        two = blended([(2, A), (1, B), (1, QUIET)])
        right = greatest_part(two)
        wrong = [value for value in otherwise(right) if not plain_is_part(two, value)]
        ones = [(1, [(1, QUIET)]), (1, ((1, QUIET),)), (1, []), (7, ()), (999999999, [(1, QUIET)])]
        tables = [RING, TURNING, quiet_table((2, 2), (2, 3)), quiet_table((4, 1), (2, 2)), None, 0, (QUIET,), HALF,
                  Table((2, 2), (2, 2), ((1, 1),) * 4)]
        wrong += [(1, [(1, table)]) for table in tables] + [
            (1, [(2, QUIET)]), (1, [(1, QUIET), (1, QUIET)]), (2, [(1, QUIET), (1, QUIET)]), (True, [(1, QUIET)]),
            (1, [(True, QUIET)]), (1, [(0, QUIET)]), (0, [(1, QUIET)]), (0, []), (-1, []), (1, [[1, QUIET]]),
            (1, {1: QUIET}), (1, [(1, QUIET, 0)]), (1, [(QUIET, 1)]), [1, [(1, QUIET)]], (1,), (1, [], ()), (1, None)]
        self.judges(is_part, (HALF,), ones, [value for value in wrong if not plain_is_part(HALF, value)])
        self.assertTrue(all(not plain_is_part(HALF, value) for value in wrong[-25:]))
        self.assertGreater(len(right[1]), 1)
        for value in otherwise(right):
            self.assertIs(is_part(two, value), plain_is_part(two, value), value)
        self.judges(is_part, (two,), [right], [(right[0], right[1][::-1])])

    def test_is_price_list(self):
        for chances in (HALF, THREE):
            right = least_prices(chances)
            back = (right[0], dict(sorted(right[1].items(), reverse=True)))
            for value in otherwise(right):
                self.assertIs(is_price_list(chances, value), plain_is_price_list(chances, value), value)
            dear = (1, {cell: 999999999 for cell in cells(chances)})
            self.judges(is_price_list, (chances,), [right, back, dear],
                        [(right[0] + 1, right[1]), (True, right[1]), (1, {}), (1, None),
                         (right[0], list(right[1].items()))])
        free = (1, {cell: 0 for cell in cells(odd_ring(3))})
        self.judges(is_price_list, (odd_ring(3),), [free], [(1, {**free[1], ((0, 0, 0), (0, 1, 0)): 0})])

    def test_too_many(self):
        every = [((a, b), 1) for a in range(15) for b in range(15)]
        for many in (200, 201):
            chances = Chances((1, 1), (15, 15), (tuple(every[:many]),))
            part = (1, [(1, Table((1, 1), (15, 15), ((0, 0),)))])
            if many == 200:
                self.assertEqual(len(inside(chances)), 200)
                self.assertEqual(fine_share(chances), (1, 1))
                self.assertEqual(len(mixture(chances)), 200)
            else:
                for function in (inside, fine_share, greatest_part, least_prices, mixture):
                    self.assertEqual(self.refused(TooMany, function, chances).most, 200)
                for function in (is_price_list, bound_of):
                    for thing in (None, (1, {}), least_prices(THREE), (1, {cell: 1 for cell in cells(chances)})):
                        self.assertEqual(self.refused(TooMany, function, chances, thing).most, 200)
            self.assertIs(is_part(chances, part), True)
            self.assertEqual(share_of(chances, part), (1, many))
            self.assertIs(is_mixture(chances, [(1, Table((1, 1), (15, 15), (received,)))
                                               for received, _ in every[:many]]), True)

    def test_wrong_values(self):
        chances = {"chances": (BadChances, wrong_chances(HALF))}
        for function in (inside, fine_share, greatest_part, least_prices, mixture):
            self.refuses(function, {"chances": HALF}, chances)
        for function in (is_part, is_price_list, is_mixture):
            self.refuses(function, {"chances": HALF, "thing": None}, chances)
        part = greatest_part(HALF)
        self.refuses(share_of, {"chances": HALF, "part": part}, {**chances, "part": (
            BadPart, [value for value in otherwise(part) if not plain_is_part(HALF, value)] + [deep_value(), True])})
        prices = least_prices(HALF)
        self.refuses(bound_of, {"chances": HALF, "prices": prices}, {**chances, "prices": (
            BadPrices, [value for value in otherwise(prices) if not plain_is_price_list(HALF, value)]
            + [deep_value(), True, prices[1]])})
        self.assertIn(((0, 1), (1, 0)), prices[1])
        inside(HALF).clear()
        least_prices(HALF)[1].clear()
        greatest_part(HALF)[1].clear()
        self.assertEqual((inside(HALF), greatest_part(HALF), least_prices(HALF)), ([QUIET], part, prices))


class Mixtures(Case):
    def test_heart_a_mixture_exactly_if_the_share_is_one(self):
        seen = set()
        for chances in some_chances(4):
            if not few(chances):
                continue
            found = mixture(chances)
            right = fine_share(chances) == (1, 1)
            seen.add(right)
            self.assertEqual(found is not None, right)
            if right:
                self.assertTrue(plain_is_mixture(chances, found))
                self.assertIs(is_mixture(chances, found), True)
                self.assertEqual(gcd(*[count for count, _ in found]), 1)
                self.assertEqual(blended(found[:20]) if len(found) <= 20 else chances, chances)
            else:
                self.assertLess(Fraction(*bound_of(chances, least_prices(chances))), 1)
        self.assertEqual(seen, {True, False})

    def test_is_mixture(self):
        two = blended([(2, A), (1, B), (1, QUIET)])
        pairs = sorted([(2, A), (1, B), (1, QUIET)], key=lambda pair: pair[1].notes)
        double = [(2 * count, table) for count, table in pairs]
        self.assertTrue(plain_is_mixture(two, pairs))
        for value in otherwise(pairs):
            self.assertIs(is_mixture(two, value), plain_is_mixture(two, value), value)
        self.judges(is_mixture, (two,), [pairs, tuple(pairs), double],
                    [pairs[::-1], pairs[:2], pairs + [(1, RING)], [(1, table) for _, table in pairs], double + pairs])
        self.judges(is_mixture, (blended([(1, RING)]),), [], [[(1, RING)], [], [(1, QUIET)]])
        self.judges(is_mixture, (blended([(3, QUIET)]),), [[(1, QUIET)], [(5, QUIET)]],
                    [[(1, QUIET), (1, QUIET)], [(True, QUIET)], [(0, QUIET)], [], [(1, RING)],
                     [(1, quiet_table((2, 2), (2, 3)))], [(1, quiet_table((1, 4), (2, 2)))]])
        self.judges(is_mixture, (odd_ring(3),), [], [[]])
        # One ratio for all sendings: a table that brings what does not come spoils it.
        self.judges(is_mixture, (blended([(1, A), (1, QUIET)]),), [[(1, QUIET), (1, A)]], [[(1, QUIET), (1, B)]])

    def test_heart_fair_chances_of_two_rooms_are_a_mixture(self):
        draw = random.Random(1030)
        fair = [chances for chances in two_rooms(draw) if is_fair(chances)]
        self.assertGreater(len([1 for chances in fair if len(cells(chances)) > 8]), 10)
        for chances in fair:
            self.assertTrue(plain_is_mixture(chances, mixture(chances)))
        self.assertTrue(is_fair(odd_ring(3)))
        self.assertEqual((inside(odd_ring(3)), mixture(odd_ring(3))), ([], None))

    def test_closing_leaves_as_great_a_share(self):
        many = 0
        for chances in some_chances(3):
            if not few(chances) or len(chances.sends) == 1 or not is_fair(chances):
                continue
            part = greatest_part(chances)
            for room in range(len(chances.sends)):
                self.assertFalse(self_heard(chances, room))
                for rule in [(0,) * chances.takes[room], tuple(note % chances.sends[room]
                                                               for note in range(chances.takes[room]))]:
                    many += 1
                    left = mean_closed(chances, room, rule)
                    self.assertGreaterEqual(Fraction(*fine_share(left)), Fraction(*fine_share(chances)))
                    counts = {}
                    for count, table in part[1]:
                        notes = closed(table, room, rule).notes
                        counts[notes] = counts.get(notes, 0) + count
                    pairs = [(counts[notes], Table(left.sends, left.takes, notes)) for notes in sorted(counts)]
                    self.assertEqual(part[0] * chances.total % left.total, 0)
                    self.assertIs(is_part(left, (part[0] * chances.total // left.total, pairs)), True)
        self.assertGreater(many, 20)

    def test_what_remains_is_fair_again(self):
        many = 0
        for chances in some_chances(3):
            if not few(chances) or not is_fair(chances):
                continue
            scale, pairs = greatest_part(chances)
            for taken in (pairs[:1], pairs[:2], pairs):
                lines = []
                for sent, line in zip(rows(chances.sends), chances.weights):
                    left = [(received, scale * number - plain_sum(taken, (sent, received)))
                            for received, number in line]
                    lines.append(tuple((received, number) for received, number in left if number))
                if () not in lines:
                    many += 1
                    self.assertIs(is_fair(Chances(chances.sends, chances.takes, tuple(lines))), True)
        self.assertGreater(many, 20)


def two_rooms(draw):
    """Chances of two rooms: blends of fine tables and of others, of which some are fair."""
    found = [HALF, odd_ring(2), blended([(1, A), (1, B)])]
    for sends, takes in [((2, 2), (2, 2)), ((2, 3), (2, 2)), ((2, 1), (3, 2)), ((1, 1), (2, 2)), ((3, 2), (1, 2))]:
        for _ in range(12):
            found.append(blended([(draw.choice((1, 2, 3)), clocked_table(draw, sends, takes)) for _ in range(3)]))
        for _ in range(40):
            found.append(blended([(1, random_table(draw, sends, takes)) for _ in range(2)]))
    # Fair ones, made by hand: what the one room leads to and what the other one does, the notes shared out anew.
    for _ in range(12):
        lines = []
        one = [draw.choice(((0, 2), (2, 0), (1, 1))) for _ in range(2)]
        two = [draw.choice(((0, 2), (2, 0), (1, 1))) for _ in range(2)]
        for x, y in rows((2, 2)):
            line = {}
            for received, number in [((0, 0), one[x][0]), ((0, 1), one[x][1]),
                                     ((0, 0), two[y][0]), ((1, 0), two[y][1])]:
                line[received] = line.get(received, 0) + number
            lines.append(tuple(sorted((received, number) for received, number in line.items() if number)))
        found.append(Chances((2, 2), (2, 2), tuple(lines)))
    return found


def plain_is_led(chances, thing):
    if thing.__class__ is not tuple or len(thing) != 3 or not is_exact(thing[0], int, 1):
        return False
    deliveries = sorted({received for _, received in cells(chances)})
    for room, lead in ((0, thing[1]), (1, thing[2])):
        keys = [(number, received) for number in range(chances.sends[room]) for received in deliveries]
        if lead.__class__ is not dict or len(lead) != len(keys):
            return False
        if not all(any(same(key, right) for right in keys) for key in lead):
            return False
        if not all(is_exact(number, int, 0) for number in lead.values()):
            return False
        for note in range(chances.takes[room]):
            sums = {sum(lead[number, received] for received in deliveries if received[room] == note)
                    for number in range(chances.sends[room])}
            if len(sums) > 1:
                return False
    return all(thing[1][x, received] + thing[2][y, received] == thing[0] * weight(chances, (x, y), received)
               for x, y in rows(chances.sends) for received in deliveries)


class Led(Case):
    def test_led_exactly_if_fair(self):
        seen = set()
        for chances in two_rooms(random.Random(1031)):
            found = led(chances)
            fair = is_fair(chances)
            seen.add(fair)
            self.assertEqual(found is not None, fair)
            if fair:
                self.assertTrue(plain_is_led(chances, found))
                self.assertIs(is_led(chances, found), True)
                self.assertEqual([list(part) for part in found[1:]], [sorted(part) for part in found[1:]])
                more = (found[0] * 3, *[{key: 3 * number for key, number in part.items()} for part in found[1:]])
                self.assertIs(is_led(chances, more), True)
        self.assertEqual(seen, {True, False})

    def test_is_led(self):
        for chances in (blended([(1, A), (2, B)]), blended([(1, A), (1, QUIET), (1, B)])):
            right = led(chances)
            back = (right[0], *[dict(sorted(part.items(), reverse=True)) for part in right[1:]])
            for value in otherwise(right):
                self.assertIs(is_led(chances, value), plain_is_led(chances, value), value)
            self.judges(is_led, (chances,), [right, back], [(right[0], right[2], right[1]), right[:2], list(right)])
        chances = blended([(1, QUIET), (1, A)])
        right = led(chances)
        self.assertIs(is_led(chances, right), True)
        # Moved from the one to the other: still right as long as nothing comes below 0.
        moved = [{(number, received): part[number, received] + step for number, received in part}
                 for part, step in zip(right[1:], (1, -1))]
        self.assertIs(is_led(chances, (right[0], *moved)), plain_is_led(chances, (right[0], *moved)))
        self.judges(is_led, (odd_ring(2),), [], [right])
        self.judges(is_led, (HALF,), [], [right])
        nothing = [{key: 0 for key in part} for part in right[1:]]
        self.judges(is_led, (chances,), [], [(0, *nothing), (-1, *[
            {key: -number for key, number in part.items()} for part in right[1:]])])

    def test_a_room_must_not_hear_itself_in_what_is_led(self):
        for room in (0, 1):
            table = Table((2, 2), (2, 2), tuple(
                tuple(sent[k] if k == room else 0 for k in (0, 1)) for sent in rows((2, 2))))
            chances = blended([(1, table)])
            deliveries = sorted({received for _, received in cells(chances)})
            leads = [{(number, received): int(k == room and received[k] == number)
                      for number in (0, 1) for received in deliveries} for k in (0, 1)]
            for x, y in rows((2, 2)):
                for received in deliveries:
                    self.assertEqual(leads[0][x, received] + leads[1][y, received], weight(chances, (x, y), received))
            self.judges(is_led, (chances,), [], [(1, *leads)])
            self.assertIsNone(led(chances))

    def test_wrong_values(self):
        others = [odd_ring(3), THREE, blended([(1, TURNING)]), odd_ring(6)]
        wrong = {"chances": (BadChances, wrong_chances(HALF) + others)}
        self.refuses(led, {"chances": HALF}, wrong)
        self.refuses(is_led, {"chances": HALF, "thing": None}, wrong)
        chances = blended([(1, A), (1, B)])
        for part in led(chances)[1:]:
            part.clear()
        self.assertIs(is_led(chances, led(chances)), True)
