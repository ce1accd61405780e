"""[114] The text of a house, and the house of a text."""

import random

from onestory.errors import BadHouse, BadText, StoryError
from onestory.house import House
from onestory.tables import Table, quiet_table, ring_table, turning_table
from onestory.texts import house_text, read_house
from tests.samples import Case, deep_value, rows
from tests.test_house import Plain, begun_tables, do, random_deed

TURNING = turning_table()
QUIET = quiet_table((2, 2), (2, 2))
EXAMPLE = "sends 2 2\ntakes 2 1\nnotes 0,0 1,0 0,0 1,0\nbind 0:1,0\nguard 0,1 1,0\nturn 0 1,0,1,0"
LONG = """sends 2 2 2
takes 2 2 2
notes 0,0,0 1,0,0 0,0,1 0,0,1 0,1,0 1,0,0 0,1,0 0,0,0
bind 0:0,1 2:1,1
turn 1 0,0,0,0,0,0,0,0
guard none
loosen 0 2
guard 0,0,0 0,0,1 0,1,0 0,1,1 1,0,0 1,0,1 1,1,0 1,1,1
bind 1:1,0
loosen 1
turn 0 1,1,1,1,1,1,1,1"""


def plain_text(table, deeds):
    def row(numbers):
        return ",".join(map(str, numbers))
    lines = ["sends " + " ".join(map(str, table.sends)), "takes " + " ".join(map(str, table.takes)),
             "notes " + " ".join(map(row, table.notes))]
    for deed in deeds:
        if deed[0] == "bind":
            words = [f"{room}:{row(deed[1][room])}" for room in sorted(deed[1])]
        elif deed[0] == "loosen":
            words = list(map(str, deed[1]))
        elif deed[0] == "turn":
            words = [str(deed[1]), row(deed[2])]
        else:
            words = ["none"] if deed[1] is None else list(map(row, deed[1]))
        lines.append(" ".join([deed[0]] + words))
    return "\n".join(lines)


def lived(draw, table, many):
    """A house with a life of deeds, some of which were taken back."""
    house, plain = House(table), Plain(table)
    states = [plain]
    for _ in range(many):
        if len(states) > 1 and draw.randrange(5) == 0:
            house.undo()
            states.pop()
        deed = random_deed(draw, states[-1])
        found = states[-1].done(deed)
        if isinstance(found, Plain):
            do(house, deed)
            states.append(found)
    return house


class Texts(Case):
    def test_each_house_is_read_from_its_text(self):
        draw = random.Random(1140)
        for table in begun_tables() * 2:
            house = lived(draw, table, 25)
            text = house_text(house)
            self.assertEqual(text, plain_text(table, house.log()))
            found = read_house(text)
            self.assertIs(found.__class__, House)
            self.assertTrue(found == house and found.log() == house.log() and len(found) == len(house))
            self.assertEqual(house_text(found), text)
            while len(house):
                house.undo()
                # What was taken back does not stand in the text.
                self.assertEqual(house_text(house), plain_text(table, house.log()))
                found.undo()
                self.assertTrue(found == house)
            self.assertEqual(found.table(), table)

    def test_by_hand(self):
        house = House(Table((2, 2), (2, 1), ((0, 0), (1, 0), (0, 0), (1, 0))))
        house.bind({0: (1, 0)})
        house.guard(((0, 1), (1, 0)))
        text = EXAMPLE.rsplit("\n", 1)[0]
        self.assertEqual(house_text(house=house), text)
        self.assertEqual((read_house(text=text), read_house(text).possible()), (house, [(0, 1), (1, 0)]))
        self.assertEqual(self.refused(BadText, read_house, EXAMPLE).line, 6)
        self.assertEqual(house_text(read_house(LONG)), LONG)
        self.assertEqual(read_house(LONG).log()[0], ("bind", {0: (0, 1), 2: (1, 1)}))
        self.assertEqual(house_text(House(quiet_table((1,), (64,)))), "sends 1\ntakes 64\nnotes 0")
        self.assertEqual(house_text(House(quiet_table((11,), (1,)))), "sends 11\ntakes 1\nnotes " + " ".join("0" * 11))
        self.assertEqual(read_house("sends 1\ntakes 64\nnotes 63").table(), Table((1,), (64,), ((63,),)))
        house = read_house(text)
        self.assertRaises(StoryError, house.redo)

    def test_the_first_wrong_line(self):
        lines = LONG.split("\n")
        notes = lines[2]
        wrong = {1: ["", "sends", "sends 0", "sends 2 2 2 ", " sends 2 2 2", "sends  2 2 2", "sends 02 2 2", "sends +2",
                     "sends 2,2", "Sends 2 2 2", "sends 2 2 x", "sends 65", "sends 2 2 2 2 2 2 2", "sends 2\t2 2",
                     "sends 8 9", "send 2 2 2", "sends2 2 2", "sends -2 2 2", "sends 2 2 2\r", "sends \u0662",
                     "sends \u00b2", "sends 1_0", "takes 2 2 2", "sends 1 1 1 1 1 1 1", "sends 2.0", "sends 2 2 2\v",
                     "sends True"],
                 2: ["", "takes", "takes 2 2", "takes 2 2 2 2", "takes 2 2 0", "takes 2 2 65", "takes 2 2 2 ",
                     "takes 2  2 2", "takes 2 02 2", "sends 2 2 2", "takes 2 2 \u0662", "notes 2 2 2", "takes 2,2,2"],
                 3: ["", "notes", "notes 0,0,0", notes + " ", notes.replace("0,0,0", "0,0,2", 1), notes + " 0,0,0",
                     notes.replace("0,0,0", "0,0", 1), notes.replace("0,0,0", "0,0,00", 1), "bind 0:0,1",
                     notes.replace(" ", "  ", 1), notes.replace("1,0,0", "0,0,0", 1), notes.replace(",", ", ", 1),
                     notes.replace("0,0,0", "0,0,", 1), notes.replace("0,0,0", ",0,0,0", 1)],
                 4: ["", "bind", "bind 0", "bind 0:", "bind 0:0", "bind 0:0,1,1", "bind 2:1,1 0:0,1", "loosen 0",
                     "bind 0:0,1 0:0,1", "bind 0:0,2", "bind 3:0,1", "bind 00:0,1", "bind 0:0,01", "bind 0:0,1 ",
                     "bind  0:0,1", "bind 0 :0,1", "bind 0:0,1:", "bind :0,1", "bind 0:0,1 x", "Bind 0:0,1", "loosen",
                     "bound 0:0,1", "undo", "redo", "bind 0:0;1", "bind -0:0,1", "bind None:0,1",
                     "bind 0:0,1 1:0,1 2:0,1 3:0,1"],
                 5: ["turn", "turn 1", "turn 1 0,0,0,0,0,0,0", "turn 1 0,0,0,0,0,0,0,0 ", "turn 3 0,0,0,0,0,0,0,0",
                     "turn 1 0,0,0,0,0,0,0,2", "turn 1 0,1,0,0,0,0,0,0", "turn 1 0 0 0 0 0 0 0 0",
                     "turn 1 0,0,0,0,0,0,0,0,0", "turn 01 0,0,0,0,0,0,0,0", "turn  1 0,0,0,0,0,0,0,0",
                     "turn 1:0,0,0,0,0,0,0,0"],
                 6: ["guard", "guard None", "guard none none", "guard none ", "guard 0,0,0", "guard 0,0,0 none",
                     "guard ()", "guard 0,0,0 0,0,0", "guard 1,1,1 0,0,0", "guard 0,0", "guard 0,0,2", "guard  none",
                     "none"],
                 7: ["loosen 2 0", "loosen", "loosen 1", "loosen 0 1", "loosen 0 0", "loosen 0,2", "loosen 0 2 ",
                     "loosen 3", "loosen 0  2", "loosen 00 2"],
                 9: ["bind 1:1,0\n", "bind 1:1,0 "], 10: ["loosen 0"]}
        self.assertEqual(house_text(read_house(LONG)), LONG)
        for number, instead in wrong.items():
            for line in instead:
                text = "\n".join(lines[:number - 1] + [line] + lines[number:])
                at = number if not line.endswith("\n") else number + 1
                self.assertEqual(self.refused(BadText, read_house, text).line, at, text)
                # What stands behind it makes no difference.
                text = "\n".join(lines[:number - 1] + [line])
                self.assertEqual(self.refused(BadText, read_house, text).line, at, text)
                text = "\n".join(lines[:number - 1] + [line, "", "sends 0", "\n"])
                self.assertEqual(self.refused(BadText, read_house, text).line, at, text)

    def test_all_first_lines_of_a_text(self):
        lines = LONG.split("\n")
        for many in range(1, len(lines) + 1):
            text = "\n".join(lines[:many])
            if many < 3:
                self.assertEqual(self.refused(BadText, read_house, text).line, many + 1)
            else:
                self.assertEqual(len(read_house(text)), many - 3)
            self.assertEqual(self.refused(BadText, read_house, text + "\n").line, many + 1)
            self.assertEqual(self.refused(BadText, read_house, text + " ").line, many)
        self.assertEqual(self.refused(BadText, read_house, "\n" + LONG).line, 1)

    def test_a_table_that_is_not_fine(self):
        ring = ring_table((2, 2))
        self.assertEqual(self.refused(BadText, read_house, plain_text(ring, [])).line, 3)
        self.assertEqual(self.refused(BadText, read_house, plain_text(ring, []) + "\nbind 9").line, 3)

    def test_thousands_of_figures(self):
        lines = LONG.split("\n")
        for figures in ("1" * 5000, "0" * 5000, "0" * 4999 + "2", "-" + "9" * 9000, "2" + "\u0660" * 5000):
            for number, line in enumerate(lines, 1):
                for word in line.split(" ")[1:][:2]:
                    text = "\n".join(lines[:number - 1] + [line.replace(word, figures, 1)] + lines[number:])
                    self.assertEqual(self.refused(BadText, read_house, text).line, number)
                text = "\n".join(lines[:number - 1] + [line + " " + figures] + lines[number:])
                self.assertEqual(self.refused(BadText, read_house, text).line, number)
                text = "\n".join(lines[:number - 1] + [line.replace("0,0", "0," + figures, 1), figures])
                right = number + 1 if line.replace("0,0", "", 1) == line else number
                right = 2 if number == 1 else 3 if number == 2 else right
                self.assertEqual(self.refused(BadText, read_house, text).line, right)
        self.assertEqual(self.refused(BadText, read_house, LONG + "\n" + "1" * 5000).line, len(lines) + 1)
        self.assertEqual(self.refused(BadText, read_house, "\n" * 5000).line, 1)

    def test_the_least_line_against_all_texts(self):
        draw = random.Random(1141)
        signs = "0123456789 ,:\nabdeghiklnorstu"
        lines = LONG.split("\n")
        for _ in range(1500):
            at = draw.randrange(len(LONG))
            more = draw.choice(["", draw.choice(signs), draw.choice(signs) * 2])
            text = LONG[:at] + more + LONG[at + draw.randrange(2):]
            number = first_wrong_line(text)
            if number is None:
                self.assertEqual(house_text(read_house(text)), text)
            else:
                self.assertEqual(self.refused(BadText, read_house, text).line, number, text)
        self.assertEqual(first_wrong_line(EXAMPLE), 6)
        self.assertEqual(len(lines), 11)

    def test_wrong_values(self):
        houses = [None, True, 0, "house", EXAMPLE, QUIET, TURNING, (House(QUIET),), [House(QUIET)], {}, deep_value()]
        self.refuses(house_text, {"house": House(QUIET)}, {"house": (BadHouse, houses)})
        for text in [None, True, 0, (), [], {}, LONG.split("\n"), (LONG,), QUIET, House(QUIET), deep_value()]:
            self.assertIsNone(self.refused(BadText, read_house, text).line)
        self.assertEqual(self.refused(BadText, read_house, "").line, 1)


def first_wrong_line(text):
    """The least number of a line that no text of a house can have there, by writing all that the words may tell."""
    lines = text.split("\n")
    house = None
    for at in range(max(len(lines), 3)):
        if at >= len(lines):
            return at + 1
        words = lines[at].split(" ")
        try:
            if at == 0:
                sends = tuple(int(word) for word in words[1:])
                table = quiet_table(sends, (1,) * len(sends))
                right = plain_text(table, []).split("\n")[0]
            elif at == 1:
                takes = tuple(int(word) for word in words[1:])
                right = plain_text(quiet_table(sends, takes), []).split("\n")[1]
            elif at == 2:
                notes = tuple(tuple(int(figure) for figure in word.split(",")) for word in words[1:])
                house = House(Table(sends, takes, notes))
                right = house_text(house).split("\n")[2]
            else:
                do(house, read_deed(words))
                right = plain_text(house.table(), house.log()).split("\n")[-1]
        except (ValueError, IndexError, KeyError):
            return at + 1
        if right != lines[at]:
            return at + 1
    return None


def read_deed(words):
    if words[0] == "bind":
        return ("bind", {int(word.split(":")[0]): read_row(word.split(":")[1]) for word in words[1:]})
    if words[0] == "loosen":
        return ("loosen", tuple(int(word) for word in words[1:]))
    if words[0] == "turn":
        return ("turn", int(words[1]), read_row(words[2]))
    return (words[0], None if words[1:] == ["none"] else tuple(read_row(word) for word in words[1:]))


def read_row(word):
    return tuple(int(figure) for figure in word.split(","))


class Sizes(Case):
    def test_great_tables(self):
        for table in [quiet_table((2,) * 6, (64,) * 6), quiet_table((64,), (64,)), quiet_table((8, 8), (10, 1))]:
            house = House(table)
            house.guard(tuple(rows(table.sends)))
            house.turn(0, (9,) * 64 if table.takes[0] == 10 else (63,) * 64)
            house.bind({0: tuple(range(table.sends[0])) + (0,) * (table.takes[0] - table.sends[0])}
                       if table.takes[0] >= table.sends[0] else {0: (table.sends[0] - 1,) * table.takes[0]})
            found = read_house(house_text(house))
            self.assertTrue(found == house and found.log() == house.log())
