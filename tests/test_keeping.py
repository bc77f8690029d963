"""Promises [7] to [9] and [110] to [116]: values kept by two kinds of lots."""

import copy
import random
import unittest

from alwaysmeet.errors import (
    Fallen, NoHouse, NoKind, NoLots, NoneStands, NoSet, NoUndo, NoValue, Standing, Twice,
)
from alwaysmeet.keeping import Kept
from alwaysmeet.plans import Many
from alwaysmeet.systems import System
from alwaysmeet.twokinds import Two, by_grid, by_votes, two_of

from things import TWELVE, Refusals, all_sets, other_things, rows, some_systems, texts, whole_numbers

ABC = ["a", "b", "c"]
TWO_OF_THREE = Many(2, ABC).system()
NONE, EMPTY, EVERY = System(ABC, []), System(ABC, [[]]), System(ABC, [ABC])


def kept_two():
    return Kept(two_of(TWO_OF_THREE))


class Plain:
    """A keeper looked at plainly: all that is told comes of the deeds, done anew each time."""

    def __init__(self, two):
        self.reads, self.writes = two.reads(), two.writes()
        self.names = self.reads.houses()
        self.deeds = []

    def state(self):
        cells, down = {name: (0, 0) for name in self.names}, []
        for deed in self.deeds:
            if deed[0] == "fall":
                down = down + [deed[1]]
            elif deed[0] == "come":
                down = [name for name in down if name != deed[1]]
            else:
                cells.update({name: (deed[2], deed[1]) for name in deed[4]})
        return cells, [name for name in self.names if name in down]

    def refusal_of_set(self, system, some, kind):
        """The class and the fields by which a set is refused, or None; a name is a text here."""
        down = self.state()[1]
        if some is None:
            stands = any(not set(lot) & set(down) for lot in system.lots())
            return None if stands else (NoneStands, kind)
        for at, name in enumerate(some):
            if name not in self.names:
                return NoHouse, name
            if name in some[:at]:
                return Twice, name
        if not any(set(lot) <= set(some) for lot in system.lots()):
            return NoLots, some
        fallen = [name for name in down if name in some]
        return (Fallen, fallen[0]) if fallen else None

    def refusal(self, word, parts):
        down = self.state()[1]
        if word in ("fall", "come", "stamp_at"):
            if parts[0] not in self.names:
                return NoHouse, parts[0]
            if word == "fall" and parts[0] in down:
                return Fallen, parts[0]
            return (Standing, parts[0]) if word == "come" and parts[0] not in down else None
        if word == "undo":
            return None if self.deeds else (NoUndo, None)
        if word == "write" and type(parts[0]) is not int:
            return NoValue, parts[0]
        asked = self.refusal_of_set(self.reads, parts[-2] if word == "write" else parts[0], "reads")
        if word == "read" or asked is not None:
            return asked
        return self.refusal_of_set(self.writes, parts[2], "writes")

    def chosen(self, system, some):
        down = self.state()[1]
        if some is None:
            some = next(lot for lot in system.lots() if not set(lot) & set(down))
        return [name for name in self.names if name in some]

    def done(self, word, parts):
        """What a deed that isn't refused tells."""
        cells = self.state()[0]
        if word in ("fall", "come"):
            self.deeds.append((word, parts[0]))
        elif word == "undo":
            self.deeds.pop()
        elif word == "stamp_at":
            return cells[parts[0]]
        elif word == "read":
            asked = self.chosen(self.reads, parts[0])
            if not asked:
                return 0, 0, None
            house = sorted(asked, key=lambda name: -cells[name][0])[0]
            return cells[house][1], cells[house][0], house
        else:
            asked, lot = self.chosen(self.reads, parts[1]), self.chosen(self.writes, parts[2])
            stamp = 1 + max(cells[name][0] for name in asked)
            self.deeds.append(("write", parts[0], stamp, tuple(asked), tuple(lot)))
            return stamp, asked, lot
        return None


def some_kinds():
    """Two kinds of all sorts, always the same ones."""
    source = random.Random(73)
    told = [Two(NONE, NONE), Two(NONE, EMPTY), Two(EMPTY, NONE), Two(EVERY, NONE), Two(NONE, EVERY), two_of(EVERY),
            two_of(TWO_OF_THREE), Two(EVERY, System(ABC, [["a"], ["b"], ["c"]])), by_grid([["a", "b"], ["c", "d"]]),
            by_votes([("a", 2), ("b", 1), ("c", 1)], 2, 3), two_of(System(["a"], [["a"]])),
            two_of(Many(4, TWELVE[:6]).system())]
    for system in some_systems(40, 5):
        if system.lots() and not system.decides([]):
            sets = all_sets(system.houses())
            good = [some for some in sets if all(set(some) & set(lot) for lot in system.lots())]
            told.append(Two(system, System(system.houses(), source.sample(good, min(len(good), 3)))))
    return told


def random_set(source, system):
    """A set to ask, or None: mostly one that decides."""
    names = system.houses()
    turn = source.random()
    if turn < 0.4:
        return None
    some = source.sample(names, source.randint(0, len(names)))
    if system.lots() and turn < 0.9:
        some = list(source.choice(system.lots())) + some
        some = [name for at, name in enumerate(some) if name not in some[:at]]
        source.shuffle(some)
    if turn > 0.97:
        some.insert(source.randint(0, len(some)), source.choice(names + ["x"]))
    return tuple(some) if source.random() < 0.3 else some


def random_deed(source, two):
    names = two.reads().houses()
    word = source.choice(["fall", "come", "write"] * 2 + ["write", "read", "read", "undo", "stamp_at"])
    if word in ("fall", "come", "stamp_at"):
        return word, [source.choice(names + names + ["x"])]
    if word == "undo":
        return word, []
    asked = random_set(source, two.reads())
    if word == "read":
        return word, [asked]
    value = source.choice([source.randint(-9, 9), 10**30 - 1, 1 - 10**30, 0, 0, True])
    return word, [value, asked, random_set(source, two.writes())]


class Whole(Refusals):
    def same(self, kept, plain):
        """What the keeper tells is what the plain one tells."""
        cells, down = plain.state()
        self.assertEqual(kept.fallen(), down)
        self.assertEqual({name: kept.stamp_at(name) for name in plain.names}, cells)
        self.assertEqual(kept.history(), plain.deeds)
        writes = [deed for deed in plain.deeds if deed[0] == "write"]
        newest = (writes[-1][2], writes[-1][1]) if writes else (0, 0)
        self.assertEqual(kept.newest(), newest)
        missed = {name: sum(deed[2] > cells[name][0] for deed in writes) for name in plain.names}
        self.assertEqual(list(kept.missed().items()), list(missed.items()))

    def step(self, kept, plain, word, parts):
        """One deed, by both; tells whether it was done."""
        before = copy.deepcopy(parts)
        ask = {"fall": kept.fall, "come": kept.come, "write": kept.write, "read": kept.read, "undo": kept.undo,
               "stamp_at": kept.stamp_at}[word]
        right = plain.refusal(word, parts)
        if right is None:
            told = ask(*parts)
            self.assertEqual(told, plain.done(word, parts))
            if word == "read" and plain.deeds and any(deed[0] == "write" for deed in plain.deeds):
                self.assertEqual((told[1], told[0]), kept.newest())
        else:
            refusal = self.refused(right[0], ask, *parts)
            found = list(vars(refusal).values())
            self.assertEqual(found, [] if right[0] is NoUndo else [right[1]])
            if right[0] in (NoLots, NoValue):
                self.assertIs(found[0], right[1])
        self.assertEqual(parts, before)
        return right is None

    def test_deeds_in_any_order(self):
        source = random.Random(79)
        seen = {}
        for two in some_kinds():
            kept, plain = Kept(two), Plain(two)
            for turn in range(60):
                word, parts = random_deed(source, two)
                done = self.step(kept, plain, word, parts)
                self.same(kept, plain)
                seen[word, done] = seen.get((word, done), 0) + 1
            self.assertEqual(kept.two().told(), two.told())
        for word in ("fall", "come", "write", "read", "undo", "stamp_at"):
            self.assertGreater(min(seen[word, True], seen[word, False]), 3, word)

    def test_each_stamp_is_greater_and_each_read_tells_what_was_written_last(self):
        source = random.Random(83)
        for two in [two_of(TWO_OF_THREE), by_grid([TWELVE[:3], TWELVE[3:6]]), by_votes([("a", 2), ("b", 1)], 2, 2)]:
            kept, stamps = Kept(two), []
            decides = [some for some in all_sets(two.reads().houses()) if two.reads().decides(some)]
            for turn in range(200):
                word, parts = random_deed(source, two)
                if word in ("fall", "come", "write"):
                    try:
                        told = {"fall": kept.fall, "come": kept.come, "write": kept.write}[word](*parts)
                    except ValueError:
                        continue
                    if word == "write":
                        self.assertTrue(all(told[0] > stamp for stamp in stamps))
                        stamps.append(told[0])
                for some in decides:
                    if stamps and not set(some) & set(kept.fallen()):
                        value, stamp, house = kept.read(some)
                        self.assertEqual((stamp, value), kept.newest())
                        self.assertEqual(kept.stamp_at(house), (stamp, value))
                        self.assertIn(house, some)
            self.assertGreater(len(stamps), 5)

    def test_two_keepers_by_turns(self):
        source = random.Random(89)
        two = two_of(TWO_OF_THREE)
        pairs = [(Kept(two), Plain(two)), (Kept(two), Plain(two))]
        for turn in range(200):
            for kept, plain in pairs:
                self.step(kept, plain, *random_deed(source, two))
            for kept, plain in pairs:
                self.same(kept, plain)

    def test_undone_is_as_if_never_done(self):
        source = random.Random(97)
        for two in some_kinds()[5:]:
            kept = Kept(two)
            told = []
            for turn in range(30):
                word, parts = random_deed(source, two)
                before = (kept.fallen(), [kept.stamp_at(name) for name in two.reads().houses()], kept.history(),
                          kept.newest(), kept.missed())
                if word in ("fall", "come", "write"):
                    try:
                        {"fall": kept.fall, "come": kept.come, "write": kept.write}[word](*parts)
                    except ValueError:
                        continue
                    told.append(before)
            for before in told[::-1]:
                self.assertIsNone(kept.undo())
                after = (kept.fallen(), [kept.stamp_at(name) for name in two.reads().houses()], kept.history(),
                         kept.newest(), kept.missed())
                self.assertEqual(after, before)
            self.refused(NoUndo, kept.undo)


class Made(Refusals):
    def test_no_two_kinds(self):
        for thing in other_things() + rows() + texts() + whole_numbers():
            if not isinstance(thing, Two):
                self.refused_with(NoKind, thing, Kept, thing)

    def test_at_first(self):
        two = by_grid([["b", "a"], ["d", "c"]])
        for kept in (Kept(two), Kept(two=two)):
            self.assertEqual(kept.two().told(), two.told())
            self.assertIs(type(kept.two()), Two)
            self.assertEqual((kept.fallen(), kept.history(), kept.newest()), ([], [], (0, 0)))
            self.assertEqual([kept.stamp_at(name) for name in "abcd"], [(0, 0)] * 4)
            self.assertEqual(list(kept.missed().items()), [("b", 0), ("a", 0), ("d", 0), ("c", 0)])
            self.assertEqual(kept.read(), (0, 0, "b"))

    def test_kinds_of_what_is_told(self):
        kept = kept_two()
        told = kept.write(7)
        self.assertEqual([type(part) for part in told], [int, list, list])
        self.assertEqual(type(told), tuple)
        self.assertIsNone(kept.fall("a"))
        self.assertIsNone(kept.come("a"))
        self.assertEqual(kept.history(), [("write", 7, 1, ("a", "b"), ("a", "b")), ("fall", "a"), ("come", "a")])
        self.assertTrue(all(type(deed) is tuple for deed in kept.history()))
        self.assertEqual([type(part) for part in kept.history()[0]], [str, int, int, tuple, tuple])
        self.assertEqual([type(part) for part in (kept.newest(), kept.missed(), kept.read(), kept.stamp_at("a"))],
                         [tuple, dict, tuple, tuple])

    def test_what_is_told_is_the_askers_own(self):
        kept = kept_two()
        stamp, asked, lot = kept.write(7)
        kept.fall("b")
        asked.clear()
        lot.append("c")
        kept.fallen().clear()
        kept.history().clear()
        kept.missed().clear()
        self.assertEqual(kept.history(), [("write", 7, 1, ("a", "b"), ("a", "b")), ("fall", "b")])
        self.assertEqual((kept.fallen(), kept.missed()), (["b"], {"a": 0, "b": 0, "c": 1}))
        self.assertEqual(kept.stamp_at("c"), (0, 0))

    def test_what_is_handed_in_stays_and_is_copied(self):
        kept = kept_two()
        asked, lot = ["c", "a"], ["b", "c"]
        self.assertEqual(kept.write(5, asked, lot), (1, ["a", "c"], ["b", "c"]))
        self.assertEqual((asked, lot), (["c", "a"], ["b", "c"]))
        asked.clear()
        lot.clear()
        self.assertEqual(kept.history(), [("write", 5, 1, ("a", "c"), ("b", "c"))])


class Falls(Refusals):
    def test_falls_and_comings_back(self):
        kept = Kept(two_of(System(["c", "a", "b"], [["a", "b"]])))
        kept.fall("b")
        kept.fall(name="c")
        self.assertEqual(kept.fallen(), ["c", "b"])
        again = "".join(["b"])
        refusal = self.refused(Fallen, kept.fall, again)
        self.assertIs(refusal.name, again)
        kept.come("c")
        self.assertEqual(kept.fallen(), ["b"])
        self.assertEqual(self.refused(Standing, kept.come, "c").name, "c")
        self.assertEqual(self.refused(Standing, kept.come, name="a").name, "a")
        self.assertEqual(kept.history(), [("fall", "b"), ("fall", "c"), ("come", "c")])

    def test_a_house_comes_back_with_what_it_had(self):
        kept = kept_two()
        kept.write(5, None, ["a", "b"])
        kept.fall("a")
        self.assertEqual(kept.stamp_at(name="a"), (1, 5))
        kept.write(6)
        self.assertEqual(kept.stamp_at("a"), (1, 5))
        kept.come("a")
        self.assertEqual([kept.stamp_at(name) for name in ABC], [(1, 5), (2, 6), (2, 6)])
        self.assertEqual(kept.missed(), {"a": 1, "b": 0, "c": 0})
        self.assertEqual(kept.read(["a", "c"]), (6, 2, "c"))

    def test_no_houses(self):
        kept = kept_two()
        kept.write(5)
        kept.fall("a")
        for thing in other_things() + rows() + whole_numbers() + [text for text in texts() if text != "a"] + ["d", "A"]:
            for ask in (kept.fall, kept.come, kept.stamp_at):
                self.refused_with(NoHouse, thing, ask, thing)
        self.assertEqual(kept.fallen(), ["a"])
        self.assertEqual(kept.history(), [("write", 5, 1, ("a", "b"), ("a", "b")), ("fall", "a")])


class Writes(Refusals):
    def test_left_out_and_told(self):
        kept = kept_two()
        self.assertEqual(kept.write(1), (1, ["a", "b"], ["a", "b"]))
        self.assertEqual(kept.write(2, None, None), (2, ["a", "b"], ["a", "b"]))
        self.assertEqual(kept.write(3, ["c", "b"]), (3, ["b", "c"], ["a", "b"]))
        self.assertEqual(kept.write(4, lot=("c", "a")), (4, ["a", "b"], ["a", "c"]))
        self.assertEqual(kept.write(lot=ABC, asked=ABC[::-1], value=-5), (5, ABC, ABC))
        kept.fall("a")
        self.assertEqual(kept.write(6), (6, ["b", "c"], ["b", "c"]))
        self.assertEqual([kept.stamp_at(name) for name in ABC], [(5, -5), (6, 6), (6, 6)])
        self.assertEqual(kept.missed(), {"a": 1, "b": 0, "c": 0})
        self.assertEqual(kept.newest(), (6, 6))

    def test_sets_larger_than_a_lot(self):
        kept = Kept(by_grid([["a", "b"], ["c", "d"]]))
        self.assertEqual(kept.write(9, ["d", "b", "a"], ["a", "c", "d"]), (1, ["a", "b", "d"], ["a", "c", "d"]))
        self.assertEqual([kept.stamp_at(name) for name in "abcd"], [(1, 9), (0, 0), (1, 9), (1, 9)])
        self.assertEqual(kept.read(["c", "b", "a"]), (9, 1, "a"))
        self.assertEqual(kept.read(["d", "c"]), (9, 1, "c"))

    def test_values(self):
        kept = kept_two()
        for value in (0, 1, -1, 10**30 - 1, 1 - 10**30):
            kept.write(value)
            self.assertEqual(kept.read()[0], value)
            self.assertEqual(kept.newest()[1], value)
        before = kept.history()
        for thing in other_things() + rows() + texts():
            self.refused_with(NoValue, thing, kept.write, thing)
            # The value is looked at ahead of what is asked.
            self.refused_with(NoValue, thing, kept.write, thing, 7, 7)
        self.assertEqual(kept.history(), before)

    def test_refused_as_sets(self):
        kept = kept_two()
        kept.write(5)
        kept.fall("a")
        before = kept.history()
        good = ["b", "c"]
        for thing in [thing for thing in other_things() if thing is not None] + texts() + whole_numbers():
            self.refused_with(NoSet, thing, kept.write, 1, thing, None)
            self.refused_with(NoSet, thing, kept.write, 1, thing, thing)
            self.refused_with(NoSet, thing, kept.write, 1, good, thing)
            self.refused_with(NoSet, thing, kept.write, 1, None, thing)
            self.refused_with(NoSet, thing, kept.read, thing)
        for thing in other_things() + rows() + whole_numbers() + ["x", ""]:
            self.refused_with(NoHouse, thing, kept.write, 1, ["a", thing, "a"])
            self.refused_with(NoHouse, thing, kept.write, 1, good, ["a", thing])
            self.refused_with(NoHouse, thing, kept.read, [thing])
        again = "".join(["b"])
        self.refused_with(Twice, again, kept.write, 1, ["a", "b", again, "x"], None)
        self.refused_with(Twice, again, kept.write, 1, None, ["a", "b", again, "x"])
        self.refused_with(Twice, again, kept.read, ("b", again))
        for some in ([], (), ["a"], ("c",)):
            self.refused_with(NoLots, some, kept.write, 1, some, 7)
            self.refused_with(NoLots, some, kept.write, 1, None, some)
            self.refused_with(NoLots, some, kept.read, some)
        self.assertEqual(self.refused(Fallen, kept.write, 1, ["c", "a"], []).name, "a")
        self.assertEqual(self.refused(Fallen, kept.write, 1, None, ["b", "a"]).name, "a")
        kept.fall("b")
        self.assertEqual(self.refused(Fallen, kept.read, ["c", "b", "a"]).name, "a")
        self.assertEqual(self.refused(Fallen, kept.read, ["c", "b"]).name, "b")
        kept.undo()
        self.assertEqual(kept.history(), before)

    def test_what_is_asked_is_refused_ahead_of_the_lot(self):
        kept = Kept(Two(EVERY, System(ABC, [["a"]])))
        kept.fall("b")
        self.assertEqual(self.refused(NoneStands, kept.write, 1).kind, "reads")
        self.assertEqual(self.refused(NoneStands, kept.write, 1, None, 7).kind, "reads")
        self.assertEqual(self.refused(NoneStands, kept.read).kind, "reads")
        self.assertEqual(self.refused(Fallen, kept.write, 1, ABC, 7).name, "b")
        kept = Kept(Two(System(ABC, [["a"]]), EVERY))
        kept.fall("b")
        self.assertEqual(self.refused(NoneStands, kept.write, 1).kind, "writes")
        self.assertEqual(self.refused(NoneStands, kept.write, 1, ["a"]).kind, "writes")
        self.assertEqual(self.refused(NoLots, kept.write, 1, ["c"]).found, ["c"])
        self.assertEqual(kept.read(), (0, 0, "a"))
        self.assertEqual(kept.history(), [("fall", "b")])

    def test_no_lots_and_the_lot_without_houses(self):
        for two, told, kind in (
            (Two(NONE, NONE), None, "reads"), (Two(NONE, EMPTY), None, "reads"), (Two(NONE, EVERY), None, "reads"),
            (Two(EMPTY, NONE), (0, 0, None), "writes"), (Two(EVERY, NONE), (0, 0, "a"), "writes"),
        ):
            kept = Kept(two)
            self.assertEqual(self.refused(NoneStands, kept.write, 1).kind, kind)
            if told is None:
                self.assertEqual(self.refused(NoneStands, kept.read).kind, "reads")
                self.refused_with(NoLots, ABC, kept.read, ABC)
            else:
                self.assertEqual(kept.read(), told)
                self.refused_with(NoLots, ABC, kept.write, 1, None, ABC)
                self.refused_with(NoLots, ABC, kept.write, 1, ABC, ABC)
            self.assertEqual((kept.history(), kept.newest()), ([], (0, 0)))
        kept = Kept(Two(EMPTY, NONE))
        for name in ABC:
            kept.fall(name)
        self.assertEqual(kept.read(), (0, 0, None))
        self.assertEqual(kept.read([]), (0, 0, None))
        kept.come("b")
        self.assertEqual(kept.read(asked=("b",)), (0, 0, "b"))
        self.assertEqual(self.refused(Fallen, kept.read, ["b", "c"]).name, "c")
        empty = []
        self.refused_with(NoLots, empty, Kept(Two(NONE, EMPTY)).write, 1, empty, empty)

    def test_twelve_houses(self):
        kept = Kept(two_of(Many(7, TWELVE).system()))
        self.assertEqual(kept.write(1), (1, TWELVE[:7], TWELVE[:7]))
        for name in TWELVE[:5]:
            kept.fall(name)
        self.assertEqual(kept.read(), (1, 1, TWELVE[5]))
        self.assertEqual(kept.write(2), (2, TWELVE[5:], TWELVE[5:]))
        kept.fall(TWELVE[5])
        self.assertEqual(self.refused(NoneStands, kept.read).kind, "reads")
        self.assertEqual(list(kept.missed().values()), [1] * 5 + [0] * 7)


class Undone(Refusals):
    def test_undo(self):
        kept = kept_two()
        self.refused(NoUndo, kept.undo)
        kept.write(5)
        kept.read()
        kept.fall("a")
        kept.write(6)
        kept.come("a")
        self.assertEqual(kept.read(["a", "b"]), (6, 2, "b"))
        kept.undo()
        self.assertEqual((kept.fallen(), kept.newest()), (["a"], (2, 6)))
        kept.undo()
        self.assertEqual((kept.newest(), kept.read()), ((1, 5), (5, 1, "b")))
        self.assertEqual(kept.missed(), {"a": 0, "b": 0, "c": 1})
        kept.undo()
        self.assertEqual((kept.fallen(), kept.history()), ([], [("write", 5, 1, ("a", "b"), ("a", "b"))]))
        kept.undo()
        self.assertEqual((kept.newest(), kept.read(), kept.stamp_at("a")), ((0, 0), (0, 0, "a"), (0, 0)))
        for turn in range(2):
            self.assertEqual(vars(self.refused(NoUndo, kept.undo)), {})
        # The stamp of what was undone is free again.
        self.assertEqual(kept.write(9)[0], 1)

    def test_what_is_refused_is_nothing_to_undo(self):
        kept = kept_two()
        kept.fall("a")
        self.refused(Fallen, kept.fall, "a")
        self.refused(Standing, kept.come, "b")
        self.refused(NoValue, kept.write, True)
        self.refused(NoLots, kept.write, 1, ["b"])
        kept.undo()
        self.assertEqual((kept.fallen(), kept.history()), ([], []))
        self.refused(NoUndo, kept.undo)


if __name__ == "__main__":
    unittest.main()
