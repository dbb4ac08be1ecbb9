import copy
import random
import unittest

from roadsay.comings import come_to, judge_come
from roadsay.errors import NoSaying, NoShape, NoTable
from roadsay.least import least_machine, trail_count
from roadsay.letters import letters_of
from roadsay.machines import machine_of
from roadsay.pairs import judge_pairs, pairs_of, parted_at, shared_at, within_at
from roadsay.sayings import is_saying, is_test
from roadsay.tables import is_table, judge_table, saying_of, spare_rules, table_does, table_of
from roadsay.texts import read_saying, shown_saying
from roadsay.trails import does, trails_of
from roadsay.turned import turned_saying

import oracle
import oracle_tables
from things import (CUBE, NO_CHANGES, NO_MATCHES, NO_SAYINGS, NO_SHAPES, NO_TABLES, RULE, any_letter,
                    count_on, count_parts, deep, lists_in, put_all)

YES, NO, NOTE = ("yes",), ("no",), ("note",)
A, B = (0,), (1,)
ANY = (-1,)
SHAPES = [(1,), (2,), (4,), (2, 2), (1, 3), (2, 1, 2), (3, 3), (2, 2, 2)]
# Sixty rules with 64 changes each, of 27 letters: as many parts as a table can have.
EVERY = oracle_tables.matches(CUBE)
BIGGEST = [(match, list(EVERY)) for match in sorted(EVERY, reverse=True)][:60]


def some_tables(shape, seed):
    chance = random.Random(seed)
    return [oracle_tables.some_table(chance, shape, many) for many in (0, 1, 1, 2, 2, 2, 3, 3, 4, 5, 8, 13, 60)]


class IsTableTest(unittest.TestCase):
    def is_one(self, shape, thing):
        self.assertIs(is_table(shape, thing), True, thing)

    def is_none(self, shape, thing):
        self.assertIs(is_table(shape, thing), False, thing)

    def test_how_many_rules(self):
        self.is_one((2, 2), [])
        for many in (1, 2, 27, 59, 60):
            self.is_one((2, 2), [RULE] * many)
        for many in (61, 62, 100, 300):
            self.is_none((2, 2), [RULE] * many)
        self.is_one(CUBE, BIGGEST)
        self.is_none(CUBE, BIGGEST + BIGGEST[:1])

    def test_matches_and_changes_of_each_value(self):
        for shape in SHAPES:
            every = oracle_tables.matches(shape)
            for match in every:
                self.is_one(shape, [(match, [])])
                self.is_one(shape, [(match, [match])])
            self.is_one(shape, [(every[0], every)])
            for field, many in enumerate(shape):
                for value in (-2, -3, many, many + 1, 10 ** 29, -10 ** 29, True, False, None, "0", "", [0], (0,)):
                    wrong = (0,) * field + (value,) + (0,) * (len(shape) - field - 1)
                    self.is_none(shape, [(wrong, [])])
                    self.is_none(shape, [((0,) * len(shape), [wrong])])

    def test_other_lengths(self):
        for many in (0, 1, 3, 4, 300):
            self.is_none((2, 2), [((-1,) * many, [])])
            self.is_none((2, 2), [((-1, -1), [(-1,) * many])])
            self.is_none((2, 2), [((-1, -1), [(-1, -1), (0,) * many])])

    def test_changes_rise(self):
        self.is_one((2, 2), [((0, 0), [])])
        self.is_one((2, 2), [((0, 0), [(1, 1)])])
        self.is_one((2, 2), [((0, 0), [(-1, 1), (0, -1), (0, 0), (1, -1)])])
        for changes in [[(0, 0), (0, 0)], [(1, 0), (0, 1)], [(0, 0), (-1, 1)], [(0, 0), (0, -1)],
                        [(-1, 1), (0, -1), (0, -1), (1, -1)], [(0, 0), (1, 1), (0, 1)]]:
            self.is_none((2, 2), [((0, 0), changes)])
            self.is_none((2, 2), [RULE, ((0, 0), changes), RULE])

    def test_lists_for_tuples_and_tuples_for_lists(self):
        self.is_one((2, 2), [((0, 0), [(1, 1)])])
        for thing in [(((0, 0), [(1, 1)]),), [[(0, 0), [(1, 1)]]], [([0, 0], [(1, 1)])], [((0, 0), ((1, 1),))],
                      [((0, 0), [[1, 1]])], [((0, 0), ())], ((0, 0), [(1, 1)])]:
            self.is_none((2, 2), thing)

    def test_anything(self):
        for thing in NO_TABLES:
            self.is_none((2, 2), thing)
        for thing in NO_SHAPES + NO_SAYINGS + NO_MATCHES + NO_CHANGES:
            if thing != []:
                self.is_none((2, 2), thing)
                self.is_none((2, 2), [thing])

    def test_of_one_shape_and_not_of_another_one(self):
        table = [((0, 2), [(1, -1)])]
        self.is_one((2, 3), table)
        for shape in [(2,), (2, 2), (1, 3), (2, 3, 1), (1, 1)]:
            self.is_none(shape, table)


class DoesTest(unittest.TestCase):
    def tells(self, shape, table, told):
        self.assertEqual(table_does(shape, table), told)

    def test_no_rule(self):
        self.tells((2,), [], [[], []])
        self.tells((2, 2), [], [[], [], [], []])

    def test_the_first_rule_that_is_met(self):
        self.tells((2,), [(A, [B])], [[B], []])
        self.tells((2,), [(B, [A])], [[], [A]])
        self.tells((2,), [(A, [B]), (B, [A])], [[B], [A]])
        self.tells((2,), [(ANY, [B]), (A, [A])], [[B], [B]])
        self.tells((2,), [(A, [A]), (ANY, [A, B])], [[A], [A, B]])
        self.tells((2,), [(A, []), (ANY, [A, B])], [[], [A, B]])
        self.tells((2,), [(A, [A]), (A, [B])], [[A], []])
        self.tells((2, 2), [((0, -1), [(1, -1)]), ((-1, 1), [(-1, 0)])],
                   [[(1, 0)], [(1, 1)], [], [(1, 0)]])
        self.tells((2, 2), [((-1, 1), [(-1, 0)]), ((0, -1), [(1, -1)])],
                   [[(1, 0)], [(0, 0)], [], [(1, 0)]])

    def test_changes(self):
        self.tells((2, 2), [((-1, -1), [(-1, -1)])], [[letter] for letter in letters_of((2, 2))])
        self.tells((2, 2), [((-1, -1), [(1, 0)])], [[(1, 0)]] * 4)
        self.tells((2, 3), [((-1, 2), [(-1, 0), (0, -1)])], [[], [], [(0, 0), (0, 2)], [], [], [(0, 2), (1, 0)]])
        self.tells((3, 1, 2), [((2, 0, 0), [(-1, -1, 1), (0, 0, -1), (1, -1, 1)])],
                   [[], [], [], [], [(0, 0, 0), (1, 0, 1), (2, 0, 1)], []])

    def test_each_letter_once_and_rising(self):
        # The changes rise, what they make doesn't; two of them make the same letter.
        self.tells((2,), [(ANY, [ANY, A])], [[A], [A, B]])
        self.tells((2,), [(ANY, [ANY, B])], [[A, B], [B]])
        self.tells((2, 2), [((-1, -1), [(-1, 1), (0, 0), (0, 1)])],
                   [[(0, 0), (0, 1)], [(0, 0), (0, 1)], [(0, 0), (0, 1), (1, 1)], [(0, 0), (0, 1), (1, 1)]])
        told = table_does(CUBE, BIGGEST)
        self.assertEqual(told[-1], letters_of(CUBE))
        self.assertEqual([letter for row in told for letter in row],
                         [letter for row in told for letter in sorted(set(row))])

    def test_many_tables(self):
        for shape in SHAPES:
            for table in some_tables(shape, 71):
                self.tells(shape, table, oracle_tables.does_by(shape, table))
        self.tells(CUBE, BIGGEST, oracle_tables.does_by(CUBE, BIGGEST))

    def test_the_told_lists_are_all_different_ones_and_the_askers_own(self):
        changes = [(-1, 1), (0, 0), (1, 1)]
        table = [((0, 0), changes), ((-1, -1), changes)]
        for used in (table, [], [((-1, -1), [])], [((1, -1), [(0, 0)])]):
            before = copy.deepcopy(used)
            told, kept = table_does((2, 2), used), table_does((2, 2), used)
            wanted = copy.deepcopy(told)
            lists = lists_in(told) + lists_in(used)
            self.assertEqual(len({id(one) for one in lists}), len(lists_in(told)) + len({id(x) for x in lists_in(used)}))
            self.assertEqual(len({id(one) for one in lists_in(told)}), 5)
            for row in told:
                row.append("more")
            told.clear()
            self.assertEqual(used, before)
            self.assertEqual(kept, wanted)
            self.assertEqual(table_does((2, 2), used), wanted)
            used.append(RULE)
            self.assertEqual(kept, wanted)


class SpareTest(unittest.TestCase):
    def tells(self, shape, table, places):
        told = spare_rules(shape, table)
        self.assertEqual(told, places, table)
        self.assertIs(type(told), list)

    def test_none(self):
        self.tells((2,), [], [])
        self.tells((2,), [(A, [A])], [])
        self.tells((2,), [(A, [B]), (B, [A])], [])
        self.tells((2,), [(A, [A]), (ANY, [A, B])], [])
        # Without the first one its letter would become something.
        self.tells((2,), [(A, []), (ANY, [A, B])], [])

    def test_the_same_rule_twice(self):
        self.tells((2,), [(A, [B]), (A, [B])], [0, 1])
        self.tells((2,), [(ANY, [B])] * 3, [0, 1, 2])
        self.tells((2,), [(A, [B]), (A, [A]), (A, [B])], [1, 2])
        self.tells((2,), [(A, [B]), (B, [B]), (A, [B])], [0, 2])

    def test_never_met(self):
        self.tells((2,), [(ANY, [B]), (A, [A])], [1])
        self.tells((2,), [(A, [B]), (B, [A]), (ANY, [A, B])], [2])
        self.tells((2, 2), [((0, -1), [(0, 0)]), ((-1, 0), [(1, 1)]), ((0, 0), [(0, 1)]), ((1, 0), [])], [2, 3])

    def test_a_last_rule_without_changes(self):
        self.tells((2,), [(A, [])], [0])
        self.tells((2,), [(ANY, [])], [0])
        self.tells((2,), [(A, [B]), (ANY, [])], [1])
        self.tells((2,), [(A, []), (B, []), (ANY, [])], [0, 1, 2])
        self.tells((2,), [(A, []), (B, [A])], [0])

    def test_what_does_the_same_otherwise(self):
        # The letter A becomes the same by the second rule.
        self.tells((2,), [(A, [B]), (ANY, [B])], [0])
        self.tells((2,), [(A, [ANY]), (ANY, [A])], [0])
        self.tells((2,), [(B, [ANY]), (ANY, [A])], [])
        # Any one of the first two can go, but not both.
        self.tells((2,), [(A, [B]), (A, [B]), (ANY, [A])], [0, 1])

    def test_many_tables(self):
        found = set()
        for shape in SHAPES:
            for table in some_tables(shape, 73) + some_tables(shape, 79):
                places = oracle_tables.spares(shape, table)
                found.add((bool(places), len(places) < len(table)))
                self.tells(shape, table, places)
        self.assertEqual(found, {(True, True), (True, False), (False, True), (False, False)})

    def test_sixty_rules(self):
        self.tells(CUBE, [((-1, -1, -1), [])] * 60, list(range(60)))
        letters = letters_of(CUBE)
        table = [(letter, [letter]) for letter in letters]
        self.tells(CUBE, table, [])
        # Of the 27 rules only the first one does what those behind it do, too.
        self.tells(CUBE, table + [((-1, -1, -1), [(0, 0, 0)])] * 33, [0] + list(range(27, 60)))
        self.tells(CUBE, table + [((-1, -1, -1), [(-1, -1, -1)])] * 33, list(range(60)))

    def test_the_told_list_is_the_askers_own(self):
        table = [(ANY, [B]), (A, [A])]
        told, kept = spare_rules((2,), table), spare_rules((2,), table)
        told.append("more")
        self.assertEqual(kept, [1])
        self.assertEqual(spare_rules((2,), table), [1])
        self.assertEqual(table, [(ANY, [B]), (A, [A])])


class TableOfTest(unittest.TestCase):
    def fits(self, shape, saying):
        told = table_of(shape, saying)
        self.assertIs(is_table(shape, told), True)
        self.assertEqual(oracle_tables.does_by(shape, told), does(shape, saying))
        self.assertEqual(oracle_tables.spares(shape, told), [])
        self.assertLessEqual(len(told), len(letters_of(shape)))
        self.assertIs(judge_table(shape, saying, told), True)

    def test_each_word(self):
        for shape in SHAPES + [CUBE]:
            for saying in [YES, NO, NOTE, ("is", 0, 0), ("put", 0, 0), ("not", ("is", 0, 0)), ("again", ("put", 0, 0)),
                           ("then", YES, ("put", 0, 0)), ("either", NOTE, ("put", 0, 0)), any_letter(shape),
                           count_on(shape), ("again", count_on(shape)), ("again", NOTE),
                           ("then", ("not", ("is", 0, 0)), any_letter(shape)), put_all(letters_of(shape)[-1])]:
                self.fits(shape, saying)

    def test_where_nothing_comes(self):
        for saying in [NO, NOTE, ("then", YES, NO), ("not", YES), ("then", ("is", 0, 0), ("is", 0, 1))]:
            self.assertEqual(table_of((2, 2), saying), [])
        told = table_of((2,), ("then", ("is", 0, 1), any_letter((2,))))
        self.assertEqual(oracle_tables.does_by((2,), told), [[], [A, B]])

    def test_many_sayings(self):
        for shape, many in [((1,), 30), ((2,), 100), ((2, 2), 80), ((2, 1, 2), 40), ((2, 3), 40), (CUBE, 5)]:
            for saying in oracle.some_sayings(shape, many, 83):
                self.fits(shape, saying)

    def test_the_told_lists_are_all_different_ones_and_the_askers_own(self):
        told, kept = table_of((2, 2), any_letter((2, 2))), table_of((2, 2), any_letter((2, 2)))
        wanted = copy.deepcopy(told)
        lists = lists_in(told)
        self.assertEqual(len({id(one) for one in lists}), len(lists))
        for rule in told:
            rule[1].clear()
        told.clear()
        self.assertEqual(kept, wanted)
        self.assertEqual(table_of((2, 2), any_letter((2, 2))), wanted)


class JudgeTest(unittest.TestCase):
    def judges(self, saying, thing, told, shape=(2,)):
        before = copy.deepcopy(thing)
        self.assertIs(judge_table(shape, saying, thing), told, (saying, thing))
        self.assertEqual(thing, before)

    def test_rules_of_the_same_doing(self):
        self.judges(YES, [(A, [A]), (B, [B])], True)
        self.judges(YES, [(B, [B]), (A, [A])], True)
        self.judges(YES, [(ANY, [ANY])], True)
        self.judges(YES, [(A, [A]), (ANY, [B])], True)
        self.judges(YES, [(B, [ANY]), (ANY, [A])], True)
        self.judges(NO, [], True)
        self.judges(NOTE, [], True)
        self.judges(any_letter((2,)), [(ANY, [A, B])], True)
        self.judges(any_letter((2,)), [(A, [A, B]), (B, [A, B])], True)
        # Two changes that make the same letter do no harm.
        self.judges(YES, [(A, [ANY, A]), (ANY, [ANY, B])], True)

    def test_rules_to_spare(self):
        self.judges(YES, [(A, [A]), (B, [B]), (B, [A])], False)
        self.judges(YES, [(A, [A]), (B, [B]), (ANY, [])], False)
        self.judges(YES, [(A, [A]), (A, [A]), (B, [B])], False)
        self.judges(YES, [(ANY, [ANY]), (A, [A])], False)
        self.judges(YES, [(A, [A]), (ANY, [ANY])], False)
        self.judges(NO, [(ANY, [])], False)
        self.judges(NO, [(A, [])], False)

    def test_rules_that_do_something_else(self):
        self.judges(YES, [], False)
        self.judges(YES, [(A, [A])], False)
        self.judges(YES, [(B, [B])], False)
        self.judges(YES, [(A, [A, B]), (B, [B])], False)
        self.judges(YES, [(A, [A]), (B, [])], False)
        self.judges(YES, [(A, [B]), (B, [A])], False)
        self.judges(any_letter((2,)), [(A, [A, B]), (B, [B])], False)
        self.judges(NO, [(A, [A])], False)

    def test_the_order_counts_where_both_are_met(self):
        saying = ("either", ("then", ("is", 0, 0), ("put", 1, 1)), ("then", ("is", 0, 1), YES))
        self.judges(saying, [((0, -1), [(0, 1)]), ((-1, -1), [(-1, -1)])], True, (2, 2))
        self.judges(saying, [((-1, -1), [(-1, -1)]), ((0, -1), [(0, 1)])], False, (2, 2))
        self.judges(saying, [((1, -1), [(-1, -1)]), ((0, -1), [(-1, 1)])], True, (2, 2))
        self.judges(saying, [((0, -1), [(-1, 1)]), ((1, -1), [(1, -1)])], True, (2, 2))

    def test_many_tables_varied(self):
        chance = random.Random(89)
        found = set()
        for shape in SHAPES:
            for saying in oracle.some_sayings(shape, 20, 97):
                whole = table_of(shape, saying)
                for at in range(12):
                    thing = self.varied(chance, shape, whole)
                    wanted = (oracle_tables.does_by(shape, thing) == oracle_tables.does(shape, saying)
                              and oracle_tables.spares(shape, thing) == [])
                    found.add(wanted)
                    self.judges(saying, thing, wanted, shape)
        self.assertEqual(found, {True, False})

    def varied(self, chance, shape, table):
        thing = copy.deepcopy(table)
        kind = chance.randrange(5)
        if kind == 0:
            chance.shuffle(thing)
        elif kind == 1:
            thing.insert(chance.randrange(len(thing) + 1), oracle_tables.some_table(chance, shape, 1)[0])
        elif kind == 2 and thing:
            thing.pop(chance.randrange(len(thing)))
        elif kind == 3 and thing:
            at = chance.randrange(len(thing))
            other = chance.choice(oracle_tables.matches(shape))
            thing[at] = (thing[at][0], sorted(set(thing[at][1]) ^ {other}))
        elif kind == 4 and thing:
            # Two rules joined: a match that is met by the letters of both.
            match, changes = chance.choice(thing)
            one = chance.choice(thing)[0]
            joined = tuple(value if value == beside else -1 for value, beside in zip(match, one))
            thing = [rule for rule in thing if rule[0] not in (match, one)] + [(joined, changes)]
        return thing

    def test_what_is_no_table(self):
        for thing in NO_TABLES:
            for saying in (YES, NO):
                self.judges(saying, thing, False, (2, 2))
        self.judges(NO, (), False)
        self.judges(YES, [(A, [A]), (B, [True])], False)
        self.judges(YES, [(A, [A]), (B, [(True,)])], False)
        self.judges(YES, [((False,), [A]), (B, [B])], False)
        self.judges(YES, [(A, [A]), (B, [(1, 1)])], False)

    def test_more_rules_than_a_table_has(self):
        letters = letters_of(CUBE)
        rules = [(letter, [letter]) for letter in letters]
        self.judges(YES, rules, True, CUBE)
        self.judges(YES, rules * 2, False, CUBE)
        self.judges(YES, rules * 3, False, CUBE)


class SayingOfTest(unittest.TestCase):
    def tells(self, shape, table, told):
        self.assertEqual(saying_of(shape, table), told)

    def test_no_rule(self):
        for shape in SHAPES:
            self.tells(shape, [], NO)

    def test_one_rule(self):
        self.tells((2,), [(ANY, [])], ("either", ("then", YES, NO), ("then", ("not", YES), NO)))
        self.tells((2,), [(ANY, [ANY])],
                   ("either", ("then", YES, ("either", YES, NO)), ("then", ("not", YES), NO)))
        test = ("then", ("is", 0, 1), YES)
        self.tells((2,), [(B, [])], ("either", ("then", test, NO), ("then", ("not", test), NO)))
        test = ("then", ("is", 0, 1), ("then", ("is", 1, 0), YES))
        self.tells((2, 2), [((1, 0), [(-1, 1), (0, 1), (1, -1)])],
                   ("either",
                    ("then", test,
                     ("either", ("then", ("put", 1, 1), YES),
                      ("either", ("then", ("put", 0, 0), ("then", ("put", 1, 1), YES)),
                       ("either", ("then", ("put", 0, 1), YES), NO)))),
                    ("then", ("not", test), NO)))
        test = ("then", ("is", 0, 2), ("then", ("is", 2, 0), YES))
        self.tells(CUBE, [((2, -1, 0), [(0, 1, 2)])],
                   ("either",
                    ("then", test,
                     ("either", ("then", ("put", 0, 0), ("then", ("put", 1, 1), ("then", ("put", 2, 2), YES))), NO)),
                    ("then", ("not", test), NO)))

    def test_two_rules(self):
        first, second = ("then", ("is", 0, 0), YES), ("then", ("is", 1, 1), YES)
        self.tells((2, 2), [((0, -1), [(1, -1)]), ((-1, 1), [])],
                   ("either",
                    ("then", first, ("either", ("then", ("put", 0, 1), YES), NO)),
                    ("then", ("not", first),
                     ("either", ("then", second, NO), ("then", ("not", second), NO)))))

    def test_many_tables(self):
        for shape in SHAPES + [CUBE]:
            for table in some_tables(shape, 101):
                before = copy.deepcopy(table)
                told = saying_of(shape, table)
                self.assertEqual(told, oracle_tables.saying_by(table))
                self.assertEqual(does(shape, told), oracle_tables.does_by(shape, table))
                self.assertEqual(table, before)
                self.assertEqual(lists_in(told), [])

    def test_there_and_back(self):
        for shape in SHAPES:
            for saying in oracle.some_sayings(shape, 20, 103):
                told = saying_of(shape, table_of(shape, saying))
                self.assertEqual(does(shape, told), does(shape, saying))
                if oracle.count_notes(saying) == 0:
                    self.assertIsNone(parted_at(shape, told, saying))

    def test_what_is_handed_in_may_be_changed_behind_the_call(self):
        table = [(A, [B]), (B, [A])]
        told = saying_of((2,), table)
        wanted = saying_of((2,), [(A, [B]), (B, [A])])
        table[0][1].append(("more",))
        table.pop()
        self.assertEqual(told, wanted)


class SixtyRulesTest(unittest.TestCase):
    """What saying_of tells of sixty rules is taken again by every function that takes a saying, and soon."""

    @classmethod
    def setUpClass(cls):
        cls.saying = saying_of(CUBE, BIGGEST)
        cls.done = oracle_tables.does_by(CUBE, BIGGEST)

    def test_it_is_as_the_document_writes_it(self):
        self.assertEqual(len(BIGGEST), 60)
        self.assertEqual(self.saying, oracle_tables.saying_by(BIGGEST))
        self.assertGreater(count_parts(self.saying), 25000)
        self.assertIs(is_saying(CUBE, self.saying), True)
        self.assertIs(is_test(CUBE, self.saying), False)

    def test_what_it_does(self):
        self.assertEqual(does(CUBE, self.saying), self.done)
        letters = letters_of(CUBE)
        ends = [(letter, last) for letter, row in zip(letters, self.done) for last in row]
        self.assertEqual(machine_of(CUBE, self.saying), [(ends, [])])
        for letter, row in zip(letters, self.done):
            if letter in (letters[0], letters[-1]):
                self.assertEqual(trails_of(CUBE, self.saying, letter, 4), [(last,) for last in row])
                self.assertEqual(trail_count(CUBE, self.saying, letter, 0), len(row))
                self.assertEqual(trail_count(CUBE, self.saying, letter, 200), 0)

    def test_with_notes_around_it(self):
        often = ("again", ("then", NOTE, self.saying))
        self.assertEqual(trail_count(CUBE, often, (2, 2, 2), 1), 27)
        self.assertIsNone(parted_at(CUBE, often, often))

    def test_beside_others(self):
        table = table_of(CUBE, self.saying)
        other = saying_of(CUBE, table)
        self.assertEqual(table_does(CUBE, table), self.done)
        self.assertIs(judge_table(CUBE, self.saying, table), True)
        self.assertIs(judge_table(CUBE, self.saying, BIGGEST), False)
        self.assertIsNone(parted_at(CUBE, self.saying, other))
        self.assertIsNone(within_at(CUBE, other, self.saying))
        first = (0, 0, 0), ((0, 0, 0),)
        self.assertEqual(shared_at(CUBE, self.saying, other), first)
        self.assertEqual(parted_at(CUBE, self.saying, NO), first)
        self.assertIs(judge_pairs(CUBE, self.saying, other, pairs_of(CUBE, self.saying, other)), True)
        self.assertEqual(least_machine(CUBE, self.saying), least_machine(CUBE, other))

    def test_turned_and_come(self):
        turned = turned_saying(CUBE, self.saying)
        letters = letters_of(CUBE)
        self.assertEqual(does(CUBE, turned), [[one for one, row in zip(letters, self.done) if letter in row]
                                              for letter in letters])
        told = come_to(CUBE, self.saying, [(0, 0, 0)], [(2, 2, 2)])
        self.assertEqual(told, ("row", [(0, 0, 0), (2, 2, 2)]))
        self.assertIs(judge_come(CUBE, self.saying, [(0, 0, 0)], [(2, 2, 2)], told), True)

    def test_shown_and_read(self):
        text = shown_saying(CUBE, self.saying)
        self.assertTrue(text.startswith("(((a=2;(b=2;(c=2;yes)));("))
        self.assertEqual(text.count("("), text.count(")"))
        with self.assertRaises(ValueError):
            read_saying(CUBE, text)
        few = saying_of(CUBE, [(match, EVERY[at * 8:at * 8 + 20]) for at, match in enumerate(EVERY[:4])])
        self.assertGreater(count_parts(few), 60)
        self.assertEqual(read_saying(CUBE, shown_saying(CUBE, few)), few)


class RefusedTest(unittest.TestCase):
    def test_no_shape_first(self):
        for shape in NO_SHAPES:
            for thing in [[], [(A, [A])], [((0, 0), [])], None, YES, "table", deep(1, 20)]:
                for tell in (is_table, table_does, spare_rules, saying_of, table_of):
                    with self.assertRaises(NoShape, msg=repr(shape)):
                        tell(shape, thing)
                for saying in (YES, None, ("maybe",)):
                    with self.assertRaises(NoShape, msg=repr(shape)):
                        judge_table(shape, saying, thing)

    def test_then_no_table(self):
        for thing in NO_TABLES:
            before = copy.deepcopy(thing)
            for tell in (table_does, spare_rules, saying_of):
                with self.assertRaises(NoTable, msg=repr(thing)):
                    tell((2, 2), thing)
                self.assertEqual(thing, before)

    def test_then_no_saying(self):
        for saying in NO_SAYINGS:
            before = copy.deepcopy(saying)
            with self.assertRaises(NoSaying, msg=repr(saying)):
                table_of((2, 2), saying)
            for thing in [[], [RULE], None, "table", [((0, 0), [(0, 0), (0, 0)])]]:
                with self.assertRaises(NoSaying, msg=repr(saying)):
                    judge_table((2, 2), saying, thing)
            self.assertEqual(saying, before)

    def test_a_table_of_another_shape(self):
        for shape in [(2,), (2, 2), (1, 3), (2, 3, 1)]:
            for tell in (table_does, spare_rules, saying_of):
                with self.assertRaises(NoTable):
                    tell(shape, [((0, 2), [(1, -1)])])
            self.assertIs(judge_table(shape, NO, [((0, 2), [(1, -1)])]), False)


if __name__ == "__main__":
    unittest.main()
