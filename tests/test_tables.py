import unittest

from onestory.errors import BadNote, BadNotes, BadRoom, BadSending, BadSends, BadSizes, BadTable, BadTakes
from onestory.tables import Table, changed, delivery, quiet_table, ring_table, sendings, turning_table
from tests.samples import Case, brings, deep_value, rows, some_tables, whole_families, wrong_numbers, wrong_sendings
from tests.samples import wrong_tables

GOOD_SENDS = [(1,), (64,), (2, 2), (8, 8), (64, 1), (4, 4, 4), (2,) * 6, (1,) * 6, (1, 1, 64, 1, 1, 1), (3, 7, 3)]
WRONG_SENDS = [None, True, 2, "2", (), [2], [2, 2], (0,), (65,), (-1,), (True,), (2, True), (2, None), (2, "2"),
               (2, (2,)), (8, 9), (65, 1), (5, 13), (2,) * 7, (1,) * 7, (3, 3, 3, 3), {0: 2}, (999999999,),
               quiet_table((2,), (2,)), deep_value()]
WRONG_TAKES = [None, True, 2, (), [2, 2], (2,), (2, 2, 2), (0, 2), (2, 0), (2, 65), (-1, 2), (2, True), (True, 2),
               (2, None), (2, "2"), ((2,), 2), {0: 2, 1: 2}, (2, 999999999), turning_table(), deep_value()]
NOTES = ((0, 0), (0, 1), (1, 0), (1, 1))


def wrong_notes():
    found = [None, True, "notes", (), NOTES[:-1], NOTES + ((0, 0),), list(NOTES), dict(enumerate(NOTES)), (0, 0, 0, 0),
             turning_table(), deep_value()]
    for wrong in [(0,), (0, 0, 0), [0, 1], (0, 2), (2, 0), (-1, 0), (0, True), (False, 0), (0, None), "01", None, 0]:
        found += [NOTES[:k] + (wrong,) + NOTES[k + 1:] for k in range(4)]
    return found


class TheTable(Case):
    def test_attributes(self):
        table = Table((2, 2), (3, 2), NOTES)
        self.assertEqual((table.sends, table.takes, table.notes), ((2, 2), (3, 2), NOTES))
        named = Table(notes=NOTES, takes=(3, 2), sends=(2, 2))
        self.assertTrue(table == named)

    def test_edges(self):
        for sends in GOOD_SENDS:
            for taken in (1, 64):
                takes = (taken,) * len(sends)
                notes = tuple((taken - 1,) * len(sends) for _ in rows(sends))
                table = Table(sends, takes, notes)
                self.assertEqual(table.notes, notes)
                self.assertEqual(table.takes, takes)

    def test_wrong_values(self):
        good = {"sends": (2, 2), "takes": (2, 2), "notes": NOTES}
        self.refuses(Table, good, {"sends": (BadSends, WRONG_SENDS), "takes": (BadTakes, WRONG_TAKES),
                                   "notes": (BadNotes, wrong_notes())})

    def test_equal_if_all_three_are(self):
        table = Table((2, 2), (2, 2), NOTES)
        self.assertTrue(table == Table((2, 2), (2, 2), tuple(list(NOTES))))
        self.assertFalse(table != Table((2, 2), (2, 2), NOTES))
        self.assertFalse(table == Table((4, 1), (2, 2), NOTES))
        self.assertFalse(table == Table((2, 2), (2, 3), NOTES))
        self.assertFalse(table == Table((2, 2), (3, 2), NOTES))
        for k in range(4):
            self.assertFalse(table == changed(table, rows((2, 2))[k], 0, 1 - NOTES[k][0]))
            self.assertTrue(table != changed(table, rows((2, 2))[k], 1, 1 - NOTES[k][1]))

    def test_equal_to_no_value_of_another_kind(self):
        table = turning_table()
        for other in wrong_tables(table) + [table.notes]:
            self.assertFalse(table == other)
            self.assertFalse(other == table)
            self.assertTrue(table != other)


class Sendings(Case):
    def test_the_ascending_list_of_all(self):
        self.assertEqual(sendings((2, 3)), [(0, 0), (0, 1), (0, 2), (1, 0), (1, 1), (1, 2)])
        self.assertEqual(sendings((1,)), [(0,)])
        for sends in GOOD_SENDS:
            found = sendings(sends=sends)
            self.assertEqual(found, rows(sends))
            self.assertEqual(found, sorted(found))
            found.append("changed")
            self.assertEqual(sendings(sends), rows(sends))

    def test_wrong_sends(self):
        for wrong in WRONG_SENDS:
            self.refused(BadSends, sendings, wrong)
            self.refused(BadSends, sendings, sends=wrong)


class Delivery(Case):
    def test_what_the_rooms_receive(self):
        for table in whole_families() + some_tables(2):
            for sent, received in brings(table).items():
                self.assertEqual(delivery(table, sent), received)
        self.assertEqual(delivery(table=ring_table((2, 3)), sending=(1, 2)), (2, 1))

    def test_wrong_values(self):
        table = Table((2, 3), (3, 2), ((0, 0), (1, 1), (2, 0), (0, 1), (1, 0), (2, 1)))
        self.refuses(delivery, {"table": table, "sending": (1, 2)},
                     {"table": (BadTable, wrong_tables(table)), "sending": (BadSending, wrong_sendings(table))})


class Changed(Case):
    def test_one_note_alone(self):
        for table in some_tables(1):
            for sent in rows(table.sends):
                for room, taken in enumerate(table.takes):
                    for note in range(taken):
                        lines = brings(table)
                        lines[sent] = lines[sent][:room] + (note,) + lines[sent][room + 1:]
                        found = changed(table, sent, room, note)
                        self.assertEqual(found.notes, tuple(lines.values()))
                        self.assertEqual((found.sends, found.takes), (table.sends, table.takes))

    def test_the_given_table_stays(self):
        table = turning_table()
        other = changed(table=table, sending=(0, 0, 0), room=2, note=1)
        self.assertEqual(table, turning_table())
        self.assertEqual(delivery(other, (0, 0, 0)), (0, 0, 1))
        self.assertEqual(changed(other, (0, 0, 0), 2, 0), table)

    def test_wrong_values(self):
        table = Table((2, 3), (4, 2), ((0, 0), (1, 1), (2, 0), (0, 1), (1, 0), (3, 1)))
        self.refuses(changed, {"table": table, "sending": (1, 2), "room": 0, "note": 3},
                     {"table": (BadTable, wrong_tables(table)), "sending": (BadSending, wrong_sendings(table)),
                      "room": (BadRoom, wrong_numbers(2)), "note": (BadNote, wrong_numbers(4))})
        self.refused(BadNote, changed, table, (0, 0), 1, 2)


class MadeTables(Case):
    def test_ring_table(self):
        for sizes in GOOD_SENDS:
            table = ring_table(sizes)
            many = len(sizes)
            self.assertEqual(table.sends, sizes)
            self.assertEqual(table.takes, tuple(sizes[(k - 1) % many] for k in range(many)))
            for sent, received in brings(table).items():
                self.assertEqual(received, tuple(sent[(k - 1) % many] for k in range(many)))
        self.assertEqual(ring_table(sizes=(2, 3)).takes, (3, 2))
        self.assertEqual(ring_table((3,)), Table((3,), (3,), ((0,), (1,), (2,))))
        for wrong in WRONG_SENDS:
            self.refused(BadSizes, ring_table, wrong)

    def test_quiet_table(self):
        for sends in GOOD_SENDS:
            takes = tuple(range(1, len(sends) + 1))
            table = quiet_table(sends, takes)
            self.assertEqual((table.sends, table.takes), (sends, takes))
            self.assertEqual(set(table.notes), {(0,) * len(sends)})
        self.assertEqual(quiet_table((2, 2), (1, 64)), quiet_table(takes=(1, 64), sends=(2, 2)))
        self.refuses(quiet_table, {"sends": (2, 2), "takes": (2, 2)},
                     {"sends": (BadSends, WRONG_SENDS), "takes": (BadTakes, WRONG_TAKES)})

    def test_turning_table(self):
        table = turning_table()
        self.assertEqual((table.sends, table.takes), ((2, 2, 2), (2, 2, 2)))
        for sent, received in brings(table).items():
            a, b, c = sent
            self.assertEqual(received, (int(c == 1 and b == 0), int(a == 1 and c == 0), int(b == 1 and a == 0)))


if __name__ == "__main__":
    unittest.main()
