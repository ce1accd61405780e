"""Which of several fine tables it is, or what the story is, by the fewest questions; or why so many are needed."""

from itertools import combinations

from onestory.errors import BadAim, BadIndex, BadNumber, BadQuestion, BadTables, TooMany
from onestory.fine import is_fine
from onestory.renamings import one_of_each
from onestory.shapes import is_below, is_number, is_row, rows
from onestory.sketches import ascends
from onestory.stories import all_rules, all_stories, are_rules_of
from onestory.tables import Table, brought
from onestory.telling import same_stories

MOST_ASKED = 8
MOST_RULES = 300
MOST_NUMBER = 9


def are_tables(thing):
    """Whether any value is a list of one to eight fine Tables of equal sizes."""
    if not isinstance(thing, (list, tuple)) or not 1 <= len(thing) <= MOST_ASKED:
        return False
    if not all([isinstance(table, Table) for table in thing]):
        return False
    first = thing[0]
    return all([table.sends == first.sends and table.takes == first.takes and is_fine(table) for table in thing])


def need_aim(tables, aim):
    if not are_tables(tables):
        raise BadTables("no list of one to eight fine Tables of equal sizes")
    if not isinstance(aim, tuple) or aim != ("which",) and not is_story_aim(tables, aim):
        raise BadAim("neither which table it is nor what the story of rules is")


def is_story_aim(tables, aim):
    return len(aim) == 2 and aim[0] == "story" and are_rules_of(tables[0], aim[1])


def need_few_rules(tables, aim):
    if len(aim) == 1 and all_rules(tables[0]) > MOST_RULES:
        raise TooMany(MOST_RULES)


def need_number(number, least):
    if not is_number(number) or not least <= number <= MOST_NUMBER:
        raise BadNumber(f"no number from {least} to 9")


def is_question(tables, aim, thing):
    """Whether any value is a question."""
    return are_rules_of(tables[0], thing) if len(aim) == 1 else is_row(thing, tables[0].sends)


def reply_of(table, aim, question):
    return all_stories(table, question)[0] if len(aim) == 1 else brought(table, question)


def reply(tables, aim, index, question):
    """What the table with this index replies to the question."""
    need_aim(tables, aim)
    if not is_below(index, len(tables)):
        raise BadIndex("no number of a table in the list")
    if not is_question(tables, aim, question):
        raise BadQuestion("no question")
    need_few_rules(tables, aim)
    return reply_of(tables[index], aim, question)


def all_questions(table, aim):
    """The ascending list of all questions."""
    if len(aim) == 2:
        return rows(table.sends)
    return one_of_each([rows((sent,) * taken) for sent, taken in zip(table.sends, table.takes)])


def all_lots(size):
    """The ascending list of all lots of so many tables."""
    return sorted([lot for many in range(1, size + 1) for lot in combinations(range(size), many)])


def are_same(one, other, aim):
    """Whether two tables have the same story for all rules, or for those of the aim."""
    return same_stories(one, other) if len(aim) == 1 else all_stories(one, aim[1]) == all_stories(other, aim[1])


class Asked:
    """Which tables reply alike to which questions, and how much must be asked for each lot."""

    def __init__(self, tables, aim):
        size = len(tables)
        # For each table the first one with which it may be taken together.
        self.same = [[other for other in range(size) if are_same(tables[other], table, aim)][0] for table in tables]
        self.whole = tuple(range(size))
        # One question, the first, for each way in which the replies are shared out.
        self.ways = {}
        for question in all_questions(tables[0], aim):
            replies = [reply_of(table, aim, question) for table in tables]
            self.ways.setdefault(tuple([replies.index(given) for given in replies]), question)
        self.depths = {}
        ordered = sorted([(len(lot), lot) for lot in all_lots(size)])
        for _, lot in ordered:
            self.depths[lot] = self.depth(lot)

    def is_settled(self, lot):
        return all([self.same[index] == self.same[lot[0]] for index in lot])

    def depth(self, lot):
        """How many questions are enough for the lot, when this is known for all lesser lots."""
        if self.is_settled(lot):
            return 0
        # A question to which all reply alike leads nowhere.
        split = [shares for shares in self.all_shares(lot) if len(shares) > 1]
        return 1 + min([max([self.depths[share] for share in shares]) for shares in split])

    def all_shares(self, lot):
        return [shares_of(way, lot) for way in self.ways]

    def best(self, lot):
        """The first question by which the lot is settled as soon as can be."""
        found = [question for way, question in self.ways.items()
                 if max([self.depths[share] for share in shares_of(way, lot)]) < self.depths[lot]]
        return found[0]


def shares_of(way, lot):
    """The lots of those of the lot that reply alike."""
    found = {}
    for index in lot:
        found.setdefault(way[index], []).append(index)
    return [tuple(share) for share in found.values()]


def shares_by_reply(tables, aim, lot, question):
    """The ascending dict from the replies of the lot's tables to the lots that give them."""
    found = {}
    for index in lot:
        found.setdefault(reply_of(tables[index], aim, question), []).append(index)
    return {given: tuple(found[given]) for given in sorted(found)}


def asked(tables, aim):
    need_aim(tables, aim)
    need_few_rules(tables, aim)
    return Asked(tables, aim)


def settled_lots(tables, aim):
    """The ascending list of all settled lots."""
    found = asked(tables, aim)
    return [lot for lot in all_lots(len(tables)) if found.is_settled(lot)]


def fewest_asked(tables, aim):
    """The least depth of an asking tree for the lot of all."""
    found = asked(tables, aim)
    return found.depths[found.whole]


def asking_tree(tables, aim):
    """An asking tree for the lot of all, of the least depth."""
    found = asked(tables, aim)
    return tree_for(tables, aim, found, found.whole)


def tree_for(tables, aim, found, lot):
    if found.is_settled(lot):
        return ("known",)
    question = found.best(lot)
    shares = shares_by_reply(tables, aim, lot, question)
    return ("ask", question, {given: tree_for(tables, aim, found, share) for given, share in shares.items()})


def is_asking_tree(tables, aim, number, thing):
    """Whether any value is an asking tree for the lot of all with at most this depth."""
    need_aim(tables, aim)
    need_number(number, 0)
    need_few_rules(tables, aim)
    found = Asked(tables, aim)
    return is_tree_for(tables, aim, found, found.whole, number, thing)


def is_tree_for(tables, aim, found, lot, number, thing):
    """Whether any value is an asking tree for the lot with at most so many questions, one behind the other."""
    if not isinstance(thing, tuple) or len(thing) not in (1, 3):
        return False
    if len(thing) == 1:
        return thing[0] == "known" and found.is_settled(lot)
    word, question, trees = thing
    if number == 0 or word != "ask" or not is_question(tables, aim, question) or not isinstance(trees, dict):
        return False
    shares = shares_by_reply(tables, aim, lot, question)
    if len(trees) != len(shares) or not all([is_reply(tables[0], aim, given) and given in shares for given in trees]):
        return False
    return all([is_tree_for(tables, aim, found, share, number - 1, trees[given]) for given, share in shares.items()])


def is_reply(table, aim, thing):
    return is_row(thing, table.sends if len(aim) == 1 else table.takes)


def asking_ranks(tables, aim, number):
    """Ranks for the number, None if there is an asking tree of a lesser depth."""
    need_aim(tables, aim)
    need_number(number, 1)
    need_few_rules(tables, aim)
    found = Asked(tables, aim)
    if found.depths[found.whole] < number:
        return None
    return {lot: found.depths[lot] for lot in all_lots(len(tables)) if found.depths[lot] > 0}


def are_asking_ranks(tables, aim, number, thing):
    """Whether any value is ranks for the number."""
    need_aim(tables, aim)
    need_number(number, 1)
    need_few_rules(tables, aim)
    if not isinstance(thing, dict) or not all([is_lot(tables, lot) and is_number(rank) and rank >= 1
                                               for lot, rank in thing.items()]):
        return False
    found = Asked(tables, aim)
    if thing.get(found.whole, 0) < number or [1 for lot in thing if found.is_settled(lot)]:
        return False
    return all([rank == 1 or keeps_rank(found, thing, lot, rank) for lot, rank in thing.items()])


def keeps_rank(found, ranks, lot, rank):
    """Whether to each question there is a reply such that the tables of the lot that give it have nearly the rank."""
    return all([max([ranks.get(share, 0) for share in shares]) >= rank - 1 for shares in found.all_shares(lot)])


def is_lot(tables, thing):
    """Whether any value is an ascending tuple of one or more different indices."""
    return isinstance(thing, tuple) and thing != () and is_row(thing, (len(tables),) * len(thing)) and ascends(thing)
