from itertools import permutations

from onestory.errors import BadSending, BadTable
from onestory.fine import first_pair, is_fine, is_paper, paper, part, unparted
from onestory.tables import quiet_table, ring_table, turning_table
from tests.samples import ZERO_ALWAYS, Case, parting_rooms, plain_fine, plain_unparted, rows, some_tables
from tests.samples import whole_families, wrong_numbers, wrong_sendings, wrong_tables

RING = ring_table((2, 2))
GREAT = [ring_table((2,) * 6), quiet_table((2,) * 6, (1,) * 6), quiet_table((8, 8), (2, 3)), quiet_table((64,), (2,)),
         ring_table((64,)), ring_table((4, 4, 4)), ring_table((64, 1))]


class Parts(Case):
    def test_the_least_room_that_parts(self):
        for table in whole_families() + some_tables(1):
            for one in rows(table.sends):
                for other in rows(table.sends):
                    rooms = parting_rooms(table, one, other)
                    self.assertEqual(part(table, one, other), min(rooms) if rooms else None)

    def test_examples(self):
        self.assertIsNone(part(RING, (0, 0), (1, 1)))
        self.assertIsNone(part(RING, (1, 1), (1, 1)))
        self.assertEqual(part(table=RING, one=(0, 1), other=(0, 0)), 1)
        self.assertEqual(part(quiet_table((2, 2), (1, 1)), (1, 1), (0, 0)), 0)

    def test_wrong_values(self):
        table = ring_table((2, 3))
        self.refuses(part, {"table": table, "one": (1, 2), "other": (0, 0)},
                     {"table": (BadTable, wrong_tables(table)), "one": (BadSending, wrong_sendings(table)),
                      "other": (BadSending, wrong_sendings(table))})


class Fine(Case):
    def test_fine_or_not(self):
        fine = 0
        tables = whole_families() + some_tables(2)
        for table in tables:
            wanted = plain_unparted(table)
            self.assertIs(is_fine(table), wanted == [])
            self.assertEqual(first_pair(table), wanted[0] if wanted else None)
            self.assertEqual(unparted(table), wanted)
            fine += not wanted
        self.assertTrue(50 < fine < len(tables) - 50)

    def test_examples(self):
        self.assertIs(is_fine(RING), False)
        self.assertEqual(first_pair(RING), ((0, 0), (1, 1)))
        self.assertEqual(unparted(RING), [((0, 0), (1, 1)), ((0, 1), (1, 0))])
        self.assertIs(is_fine(quiet_table((2, 2), (1, 1))), True)
        self.assertIs(is_fine(table=turning_table()), True)
        self.assertIsNone(first_pair(table=turning_table()))
        self.assertEqual(unparted(table=turning_table()), [])

    def test_great_tables(self):
        for table in GREAT:
            self.assertEqual(unparted(table), plain_unparted(table))
            self.assertIs(is_fine(table), plain_fine(table))

    def test_how_many_are_fine(self):
        self.assertEqual(sum(is_fine(table) for table in whole_families() if table.sends == table.takes == (2, 2)), 12)

    def test_lists_are_new(self):
        unparted(RING).clear()
        self.assertEqual(len(unparted(RING)), 2)

    def test_wrong_values(self):
        for function in (is_fine, first_pair, unparted, paper):
            self.refuses(function, {"table": RING}, {"table": (BadTable, wrong_tables(RING))})
        self.refuses(is_paper, {"table": RING, "thing": {}}, {"table": (BadTable, wrong_tables(RING))})


class Papers(Case):
    def test_from_all_pairs_to_the_least_room(self):
        for table in whole_families() + some_tables(2) + GREAT:
            found = paper(table)
            if not plain_fine(table):
                self.assertIsNone(found)
                continue
            every = rows(table.sends)
            pairs = [(one, other) for one in every for other in every if one < other]
            self.assertEqual(list(found), pairs)
            for one, other in pairs:
                self.assertEqual(found[one, other], min(parting_rooms(table, one, other)))
            self.assertIs(is_paper(table, found), True)

    def test_one_sending(self):
        self.assertEqual(paper(quiet_table((1, 1), (2, 2))), {})
        self.assertIs(is_paper(quiet_table((1, 1), (2, 2)), {}), True)

    def test_is_paper(self):
        table = quiet_table((2, 2), (1, 2))
        good = {((0, 0), (0, 1)): 1, ((0, 0), (1, 0)): 0, ((0, 0), (1, 1)): 0, ((0, 1), (1, 0)): 1,
                ((0, 1), (1, 1)): 0, ((1, 0), (1, 1)): 1}
        right = [dict(lines) for lines in list(permutations(good.items()))[::100]]
        right += [{**good, ((0, 0), (1, 1)): 1}, {**good, ((0, 1), (1, 0)): 0}]
        wrong = [list(good.items()), tuple(good.items()), {**good, ((1, 1), (0, 0)): 0}, {**good, "more": 0}]
        for pair in good:
            short = {key: room for key, room in good.items() if key != pair}
            one, other = pair
            wrong.append(short)
            wrong += [{**good, pair: room} for room in wrong_numbers(2)]
            for key in [(other, one), (one, one), (one, other, one), (one,), one, None, "pair", (one, other + (0,)),
                        tuple((bool(a), b) for a, b in pair), (one, tuple(bool(a) for a in other)), (one, None)]:
                wrong.append({**short, key: good[pair]})
        wrong += [{**good, ((0, 0), (0, 1)): 0}, {**good, ((0, 0), (1, 0)): 1}]
        self.judges(is_paper, (table,), right, wrong)

    def test_a_room_must_receive_the_same(self):
        table = turning_table()
        good = paper(table)
        for one, other in good:
            for room in range(3):
                self.assertIs(is_paper(table, {**good, (one, other): room}), room in parting_rooms(table, one, other))

    def test_no_paper_of_a_table_that_is_not_fine(self):
        for room in (0, 1):
            thing = {(one, other): room for one in rows((2, 2)) for other in rows((2, 2)) if one < other}
            self.assertIs(is_paper(RING, thing), False)
        self.judges(is_paper, (RING,), [], [])
        self.judges(is_paper, (ZERO_ALWAYS,), [{((0,), (1,)): 0}], [{((0,), (1,)): False}, {((False,), (1,)): 0}])
