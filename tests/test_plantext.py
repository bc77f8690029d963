"""Promises [7], [8], [9] and [40] to [44]: plans as texts."""

import random
import unittest

from alwaysmeet.errors import MeetError, NoHouse, NoHouses, NoLots, NoNumber, NoPlan, NoText, Twice
from alwaysmeet.plans import Grid, Lots, Many, Put, Tree, Wall, Weights
from alwaysmeet.plantext import plan_text, read_plan, system_text
from alwaysmeet.systems import System
from alwaysmeet.words import LETTERS, own_words

from grammar import first_wrong
from planmodel import some_plans
from things import TWELVE, Refusals, all_sets, other_things, rows, some_systems, texts, whole_numbers

TEXTS = [
    ("lots ( a )", Lots(["a"], [])),
    ("lots ( a ) ( )", Lots(["a"], [[]])),
    ("lots ( c a b ) ( ) ( b ) ( c b )", Lots(["c", "a", "b"], [["b"], ["b", "c"], []])),
    ("many 0 ( a )", Many(0, ["a"])),
    ("many 12 ( " + " ".join(TWELVE) + " )", Many(12, TWELVE)),
    ("weights 3 ( b 2 a 0 c 99 )", Weights(3, [("b", 2), ("a", 0), ("c", 99)])),
    ("weights 1188 ( a 1 )", Weights(1188, [("a", 1)])),
    ("grid ( a )", Grid([["a"]])),
    ("grid ( b a ) ( c d )", Grid([["b", "a"], ["c", "d"]])),
    ("wall ( a ) ( c b ) ( d )", Wall([["a"], ["c", "b"], ["d"]])),
    ("tree a", Tree("a")),
    ("tree a ( b )", Tree("a", [Tree("b")])),
    ("tree a ( b ( c ) ( d ) ) ( e )", Tree("a", [Tree("b", [Tree("c"), Tree("d")]), Tree("e")])),
    ("put a ( tree a ) ( many 1 ( a b ) )", Put("a", Tree("a"), Many(1, ["a", "b"]))),
    (
        "put a ( put b ( grid ( a b ) ) ( lots ( c ) ( c ) ) ) ( tree d ( e ) )",
        Put("a", Put("b", Grid([["a", "b"]]), Lots(["c"], [["c"]])), Tree("d", [Tree("e")])),
    ),
]
# Texts that stand by point 40 alone, though no plan may be so.
STANDING = [
    "lots ( )", "lots ( ) ( ) ( )", "lots ( a a ) ( b b )", "many 9999 ( )", "many 0 ( a a )", "weights 0 ( )",
    "weights 9999 ( a 9999 a 0 )", "grid", "wall", "grid ( )", "wall ( ) ( a )", "tree a ( a ) ( a ) ( a ) ( a )",
    "put z ( grid ) ( wall )", "put a ( put a ( grid ) ( grid ) ) ( put a ( wall ) ( tree a ) )",
]


def changed(words, turn):
    """Texts that come of one by a change at one place."""
    extra = ["", "(", ")", "a", "7", "0", "07", "10000", "A", "lots", "tree", "all", "none", "abcdefg", "a\n", "-1"]
    told = []
    for at in range(len(words)):
        told.append(words[:at] + words[at + 1:])
        told.append(words[:at + 1] + words[at:])
        told.append(words[:at] + words[at:at + 2][::-1] + words[at + 2:])
        told.append(words[:at])
        word = extra[(at + turn) % len(extra)]
        told.append(words[:at] + [word] + words[at + 1:])
        told.append(words[:at] + [word] + words[at:])
    for word in extra:
        told.append(words + [word])
        told.append([word] + words)
    return [" ".join(row) for row in told]


def deep_tree(levels):
    return "tree a" + " ( a" * (levels - 1) + " )" * (levels - 1)


def deep_put(many):
    return "put a ( " * many + "tree a" + " ) ( tree a )" * many


class Writing(unittest.TestCase):
    def test_texts(self):
        for text, plan in TEXTS:
            self.assertEqual(plan_text(plan), text)
            self.assertEqual(plan_text(plan=plan), text)

    def test_written_and_read_again(self):
        for plan in some_plans(200, 8, 4) + [plan for text, plan in TEXTS]:
            text = plan_text(plan)
            again = read_plan(text)
            self.assertIs(type(again), type(plan))
            self.assertEqual(again.told(), plan.told())
            self.assertEqual(plan_text(again), text)
            self.assertNotIn("  ", text)
            self.assertEqual(text, text.strip())
            self.assertIsNone(first_wrong(text))

    def test_lots_in_any_order(self):
        plan = read_plan("lots ( b a c ) ( c a ) ( a b c ) ( a ) ( )")
        self.assertEqual(plan.told(), ("lots", ("b", "a", "c"), ((), ("a",), ("a", "c"), ("b", "a", "c"))))
        self.assertEqual(plan_text(plan), "lots ( b a c ) ( ) ( a ) ( a c ) ( b a c )")

    def test_systems(self):
        self.assertEqual(system_text(System(["b", "a"], [["a", "b"], [], ["a"]])), "lots ( b a ) ( ) ( a ) ( b a )")
        self.assertEqual(system_text(system=System(["a"], [])), "lots ( a )")
        for system in some_systems():
            plan = read_plan(system_text(system))
            self.assertEqual(plan.told(), ("lots",) + system.told())
            self.assertEqual(plan.system().told(), system.least().told())

    def test_the_greatest_text(self):
        names = [name * 6 for name in "abcdefghijkl"]
        system = System(names, all_sets(names)[-1000:])
        text = system_text(system)
        self.assertEqual(read_plan(text).told(), ("lots",) + system.told())


class Reading(Refusals):
    def test_texts(self):
        for text, plan in TEXTS:
            for told in (read_plan(text), read_plan(text=text)):
                self.assertIs(type(told), type(plan))
                self.assertEqual(told.told(), plan.told())

    def refused_at(self, place, text):
        found = self.refused(NoText, read_plan, text).place
        self.assertEqual((type(found), found), (int, place), text)

    def look(self, text):
        """Holds what comes of a text against the grammar."""
        place = first_wrong(text)
        if place is None:
            try:
                read_plan(text)
            except NoText:
                self.fail(text)
            except MeetError:
                pass
        else:
            self.refused_at(place, text)

    def test_what_is_no_text(self):
        for thing in other_things() + rows() + whole_numbers():
            self.refused_at(0, thing)

    def test_texts_of_no_plan(self):
        for text in texts():
            self.refused_at(1 if text == "lots" else 0, text)
        for place, text in (
            (1, "lots"), (1, "many"), (1, "tree"), (1, "put"), (1, "weights"), (2, "lots ("), (3, "lots ( a"),
            (0, "( a )"), (0, "a"), (0, "Lots ( a )"), (1, "lots a"), (3, "lots ( a all )"), (4, "lots ( a ) a"),
            (4, "lots ( a ) )"), (5, "lots ( a ) ("), (1, "many ( a )"), (1, "many 01 ( a )"), (1, "many 10000 ( a )"),
            (1, "many -1 ( a )"), (1, "many 1a ( a )"), (2, "many 1"), (5, "many 1 ( a ) ( b )"), (2, "many 1 a"),
            (4, "weights 1 ( a )"), (3, "weights 1 ( 1 a )"), (4, "weights 1 ( a b )"), (5, "weights 1 ( a 1 1 )"),
            (6, "weights 1 ( a 1 ) )"), (4, "weights 1 ( a"), (1, "grid a"), (1, "wall )"), (3, "grid ( a"),
            (1, "tree ( a )"), (1, "tree lots"), (2, "tree a b"), (3, "tree a ( )"), (4, "tree a ( b"),
            (5, "tree a ( b ) c"),
            (4, "tree a ( b c )"), (1, "put ( tree a ) ( tree b )"), (2, "put a"), (2, "put a tree a"),
            (3, "put a ( a )"),
            (5, "put a ( tree a"), (6, "put a ( tree a )"), (6, "put a ( tree a ) tree b"), (3, "put a ( )"),
            (10, "put a ( tree a ) ( tree b ) )"), (10, "put a ( tree a ) ( tree b ) ( tree c )"),
            (9, "put a ( tree a ) ( tree b"),
            (0, " tree a"), (2, "tree a "), (1, "tree  a"), (2, "tree a  ( b )"), (1, "tree a\n"), (0, "tree\na"),
            (1, "tree \n a"),
            (3, "many 2 (  )"), (4, "lots ( a )  ( a )"), (0, "  "), (3, "many 1 ( abcdefg )"), (3, "many 1 ( a1 )"),
        ):
            self.assertEqual(first_wrong(text), place, text)
            self.refused_at(place, text)

    def test_own_words_are_no_names(self):
        for word in own_words():
            self.refused_at(3, f"many 1 ( {word} )")
            self.refused_at(1, f"tree {word}")
            self.refused_at(1, f"put {word} ( tree a ) ( tree b )")

    def test_each_change_of_a_text(self):
        plans = [plan_text(plan) for plan in some_plans(40, 6, 3)]
        for turn, text in enumerate([text for text, plan in TEXTS] + STANDING + plans):
            self.assertIsNone(first_wrong(text))
            for one in changed(text.split(" "), turn):
                self.look(one)

    def test_all_beginnings_with_each_word_behind(self):
        signs = ["lots", "many", "weights", "grid", "wall", "tree", "put", "(", ")", "a", "3", "", "all"]
        begun = [[]]
        for turn in range(5):
            begun = [row + [sign] for row in begun for sign in signs]
            for row in begun:
                self.look(" ".join(row))
            # Only what can go on is gone on with.
            begun = [row for row in begun if first_wrong(" ".join(row)) in (None, len(row))]

    def test_the_place_is_told_whatever_comes_behind(self):
        self.refused_at(3, "many 99 ( all ( ( )")
        self.refused_at(1, "tree ( a a" + " )" * 4000)
        self.refused_at(6, "many 5 ( a a ) x")
        self.refused_at(20001, "grid" + " ( )" * 10000 + " )")

    def test_random_words(self):
        source = random.Random(4)
        signs = "lots many weights grid wall tree put ( ( ( ) ) ) a b c 1 2".split()
        for turn in range(3000):
            self.look(" ".join(source.choice(signs) for at in range(source.randint(1, 14))))


class Making(Refusals):
    def found(self, kind, text):
        return self.refused(kind, read_plan, text).found

    def test_groups_are_lists(self):
        for kind, text, found in (
            (NoHouses, "lots ( )", []),
            (NoHouses, "lots ( a b a ) ( z )", ["a", "b", "a"]),
            (NoHouse, "lots ( a ) ( z ) ( a a )", "z"),
            (Twice, "lots ( a b ) ( b a b )", "b"),
            (Twice, "lots ( a b ) ( a b ) ( ) ( b a ) ( )", ["b", "a"]),
            (Twice, "lots ( a ) ( ) ( )", []),
            (NoLots, "lots ( a )" + " ( )" * 1001, [[]] * 1001),
            (NoHouses, "many 2 ( )", []),
            (NoHouses, "many 9 ( a a )", ["a", "a"]),
            (NoNumber, "many 2 ( a )", 2),
            (NoNumber, "many 9999 ( a )", 9999),
            (NoNumber, "weights 1189 ( )", 1189),
            (NoPlan, "weights 0 ( )", []),
            (NoPlan, "weights 1 ( a 99 b 100 )", [("a", 99), ("b", 100)]),
            (NoHouses, "weights 1 ( a 99 b 0 a 1 )", ["a", "b", "a"]),
            (NoPlan, "grid", []),
            (NoPlan, "grid ( a ) ( )", [["a"], []]),
            (NoPlan, "grid ( a ) ( b ) ( c ) ( d ) ( e )", [["a"], ["b"], ["c"], ["d"], ["e"]]),
            (NoHouses, "grid ( a b ) ( b c )", ["a", "b", "b", "c"]),
            (NoPlan, "wall", []),
            (NoPlan, "wall ( )", [[]]),
            (NoHouses, "wall ( a ) ( b a )", ["a", "b", "a"]),
            (NoHouses, "tree a ( b ) ( a )", ["a", "b", "a"]),
            (NoHouse, "put z ( tree a ) ( tree b )", "z"),
            (NoHouses, "put a ( many 1 ( a b ) ) ( many 1 ( c b ) )", ["c", "b", "b"]),
        ):
            told = self.found(kind, text)
            self.assertEqual((type(told), told), (type(found), found), text)

    def test_ways_are_lists_of_trees(self):
        ways = self.found(NoPlan, "tree a ( b ) ( c ( x ) ) ( d ) ( e )")
        self.assertIs(type(ways), list)
        self.assertEqual([type(way) for way in ways], [Tree] * 4)
        self.assertEqual([way.houses() for way in ways], [["b"], ["c", "x"], ["d"], ["e"]])
        ways = self.found(NoPlan, "tree a ( b ( c ( d ( e ) ) ) )")
        self.assertEqual([way.told() for way in ways], [read_plan("tree b ( c ( d ( e ) ) )").told()])

    def test_plans_in_a_put(self):
        four = "tree a"
        for turn in range(4):
            four = f"put a ( {four} ) ( tree a )"
        self.assertEqual(plan_text(read_plan(four)), four)
        found = self.found(NoPlan, f"put a ( {four} ) ( tree a )")
        self.assertEqual(plan_text(found), four)
        found = self.found(NoPlan, f"put b ( tree b ) ( {four} )")
        self.assertEqual(plan_text(found), four)

    def test_the_first_from_the_left_where_its_bracket_closes(self):
        for kind, text, found in (
            (NoNumber, "put z ( many 2 ( a ) ) ( many 3 ( b ) )", 2),
            (NoNumber, "put z ( tree a ) ( many 3 ( b ) )", 3),
            (NoHouse, "put z ( tree a ) ( tree a )", "z"),
            (NoHouses, "put z ( tree a ( b ( c ) ( c ) ) ( b ( d ) ( d ) ) ) ( grid )", ["b", "c", "c"]),
            (NoHouses, "tree a ( b ( d ) ( d ) ) ( a ( c ) ( c ) )", ["b", "d", "d"]),
            (NoHouses, "tree a ( c ( d ( e ) ( e ) ) ( c ) ) ( x ( x ) )", ["d", "e", "e"]),
            (NoHouses, "tree a ( a ) ( b ) ( c ) ( d ( d ) )", ["d", "d"]),
            (NoHouse, "put a ( put z ( tree a ) ( tree b ) ) ( grid )", "z"),
            (NoPlan, "put a ( grid ) ( put z ( tree a ) ( tree b ) )", []),
            (NoHouses, "put z ( many 7 ( a a ) ) ( weights 9999 ( ) )", ["a", "a"]),
        ):
            told = self.found(kind, text)
            self.assertEqual((type(told), told), (type(found), found), text)

    def test_the_whole_text_has_to_stand_first(self):
        for text in ("many 2 ( a ) )", "put z ( many 2 ( a ) ) ( grid ) x", "tree a ( a ) ( b ( c ) ("):
            place = self.refused(NoText, read_plan, text).place
            self.assertEqual(place, first_wrong(text))

    def test_brackets_deep_within_one_another(self):
        for many in (10, 351, 702, 703, 3000):
            self.assertEqual(self.found(NoHouses, deep_tree(many + 1)), ["a", "a"])
            self.assertEqual(plan_text(self.found(NoPlan, deep_put(many))), deep_put(4))
            text = deep_tree(many + 1)
            self.assertEqual(self.refused(NoText, read_plan, text + " )").place, len(text.split(" ")))
            self.assertEqual(self.refused(NoText, read_plan, text[:-2]).place, len(text.split(" ")) - 1)
        names = "".join(f" ( {letter}{end}" for end in LETTERS for letter in LETTERS)
        text = "tree root" + names + " )" * 676
        self.assertEqual([way.houses() for way in self.found(NoPlan, text)], [["wz", "xz", "yz", "zz"]])

    def test_long_texts(self):
        ways = self.found(NoPlan, "tree a" + " ( a )" * 10000)
        self.assertEqual(len(ways), 10000)
        self.assertEqual(len(self.found(NoLots, "lots ( a )" + " ( a )" * 10000)), 10000)
        self.assertEqual(len(self.found(NoPlan, "weights 0 ( " + "a 0 " * 15000 + ")")), 15000)
        text = "put a ( many 0 ( a b c d e f g h i j k l ) ) ( " * 700 + "grid" + " )" * 700
        self.assertEqual(self.found(NoPlan, text), [])

    def test_equal_answers_whatever_was_asked_before(self):
        for text, plan in TEXTS:
            self.refused(NoText, read_plan, "tree")
            self.assertEqual(read_plan(text).told(), read_plan(text).told())
            self.assertEqual(plan_text(plan), plan_text(plan))


if __name__ == "__main__":
    unittest.main()
