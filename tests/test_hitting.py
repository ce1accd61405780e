"""[54] The fewest cells that tell a fine table from all others, found without the classes to begin with."""

from onestory.hitting import MORE_THAN_ALL, Others, hits_needed, less_by
from onestory.stamps import is_stamp
from onestory.tables import turning_table
from tests.samples import Case, every_cell, plain_fine, spark_four
from tests.test_stamps import plain_fewest, small_fine, unlike_cells


def without_classes(table):
    """Others of which nothing is known yet."""
    others = Others(table)
    others.lots = []
    others.tables = {}
    return others


class Hitting(Case):
    def test_the_least_stamp_of_lots_that_are_found_on_the_way(self):
        for table in small_fine(5) + [turning_table()]:
            many = len(Others(table).least_stamp())
            others = without_classes(table)
            found = others.least_stamp()
            self.assertEqual(len(found), many)
            self.assertTrue(is_stamp(table, others.shown(found)))
            if len(table.notes) < 6:
                self.assertEqual(many, plain_fewest(table))
            for less in range(many):
                self.assertIsNone(without_classes(table).stamp_within(less))
                self.assertIsNone(others.stamp_within(less))
            for more in range(many, many + 3):
                self.assertTrue(len(without_classes(table).stamp_within(more)) <= more)

    def test_what_is_kept(self):
        for table in small_fine(2) + [turning_table(), spark_four()]:
            cells = every_cell(table)
            for others in (Others(table), without_classes(table)):
                others.least_stamp()
                self.assertEqual(others.lots, sorted(others.lots, key=lambda lot: (len(lot), lot)))
                self.assertEqual(sorted(others.lots), sorted(others.tables))
                for lot, other in others.tables.items():
                    self.assertTrue(plain_fine(other))
                    self.assertEqual([cells[at] for at in lot], unlike_cells(table, other))

    def test_lots_to_begin_with_have_no_cell_in_common(self):
        for table in small_fine(2) + [turning_table(), spark_four()]:
            lots = Others(table).lots
            cells = [at for lot in lots for at in lot]
            self.assertEqual(len(cells), len(set(cells)))

    def test_hits_needed(self):
        self.assertEqual(hits_needed([]), 0)
        self.assertEqual(hits_needed([(1,), (2, 3), (3, 4), (4, 5)]), 3)
        self.assertEqual(hits_needed([(1, 2), (2, 3), (1, 3)]), 1)
        self.assertEqual(hits_needed([(), (1,)]), MORE_THAN_ALL)
        self.assertEqual(less_by((1, 2, 5, 7), (2, 7, 9)), (1, 5))

    def test_lots_without_chosen_cells(self):
        table = turning_table()
        others = Others(table)
        for lot in others.lots:
            self.assertNotIn(lot, others.lots_without(lot[:1]))
        chosen = tuple(lot[0] for lot in others.lots)
        self.assertEqual(others.lots_without(chosen) == [], is_stamp(table, others.shown(tuple(sorted(chosen)))))
        self.assertEqual(others.lots_without(tuple(range(len(every_cell(table))))), [])
