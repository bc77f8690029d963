"""Promises [6] to [9] and [120] to [125]: a desk that answers lines."""

import random
import re
import unittest

from alwaysmeet.chances import chance, turns
from alwaysmeet.desk import Desk
from alwaysmeet.errors import (
    Apart, Fallen, MeetError, NoChance, NoHouse, NoHouses, NoKind, NoLine, NoLots, NoneStands, NoNumber, NoPlan,
    NoSystem, NoText, NoUndo, Standing, TooMany, Twice,
)
from alwaysmeet.falls import last_hopes, least_falls, may_fall, more_may_fall
from alwaysmeet.fractions import share_text
from alwaysmeet.loads import least_load
from alwaysmeet.otherside import other_side, settled
from alwaysmeet.plantext import plan_text, read_plan, system_text
from alwaysmeet.voting import weights_of
from alwaysmeet.widening import widened
from alwaysmeet.words import own_words

from planmodel import some_plans
from things import TWELVE, Refusals, all_sets, other_things, rows, whole_numbers

NAME = r"(?!(?:%s)(?: |\Z))[a-z]{1,6}" % "|".join(own_words())
WORD = r"[^ \n]+"
NUMBER = r"(?:0|-?[1-9][0-9]{0,8})"
SHARE = r"(?:0|[1-9][0-9]*)(?:/[1-9][0-9]*)?"
# The forms of [121] to [125], plainly written; shares in lowest terms are looked at by good_form.
FORMS = [
    rf"plan {NAME}(?: {WORD})+", rf"(?:drop|text|lots|meets|may|load|weights|turns) {NAME}", r"names|read|undo|missed",
    rf"(?:decides|settled|more|hopes) {NAME}(?: {WORD})*", rf"(?:alike|other|widen|keep) {NAME} {NAME}",
    rf"chance {NAME}(?: {SHARE})*", rf"(?:fall|come) {WORD}", rf"write {NUMBER}",
]
GOOD_LINES = [
    "plan a many 2 ( x y z )", "drop two", "names", "text two", "lots two", "decides two x y", "decides two",
    "meets two", "alike two one", "other two new", "widen two new", "settled two x", "settled two", "may two",
    "more two x", "more two", "hopes two x", "hopes two", "load two", "weights two", "chance two 1/2 1/3 0",
    "turns two", "keep two two", "fall x", "come z", "write 7", "write -7", "write 0", "read", "undo", "missed",
]


def shown(some):
    return " ".join(["("] + list(some) + [")"])


def all_shown(sets):
    return " ".join(shown(some) for some in sets) or "nothing"


def new_desk():
    """A desk with two plans, and a keeper at which something was done."""
    desk = Desk()
    for line in ("plan two many 2 ( x y z )", "plan one lots ( x y z ) ( x )", "keep two two", "write 5", "fall z"):
        desk.say(line)
    return desk


def state_of(desk):
    """All that a desk can tell of what it keeps."""
    told = [desk.say("names")]
    if told != ["nothing"]:
        told += [desk.say(f"text {name}") for name in told[0].split(" ")]
    for line in ("missed", "read"):
        try:
            told.append(desk.say(line))
        except MeetError as refusal:
            told.append((type(refusal), vars(refusal)))
    return told


def good_form(line):
    """Whether a line has one of the forms, looked at plainly."""
    if type(line) is not str or not any(re.fullmatch(form, line) for form in FORMS):
        return False
    words = line.split(" ")
    if words[0] == "chance":
        for word in words[2:]:
            top, stroke, bottom = word.partition("/")
            if stroke and (bottom == "1" or share_text_of(top, bottom) != word):
                return False
    return True


def share_text_of(top, bottom):
    one, other = int(top), int(bottom)
    while other:
        one, other = other, one % other
    return f"{int(top) // one}/{int(bottom) // one}"


def near_lines(line):
    """Lines that differ from this one in one place."""
    words = line.split(" ")
    others = ["", "x", "two", "lots", "all", "abcdefg", "X", "a1", "0", "-0", "07", "-07", "1/2", "2/4", "2/1", "-1",
              "--1", "123456789", "1234567890", "-123456789", "-1234567890", "+1", "-", "(", ")", "plan", "names",
              "a\nb", "\n"]
    yield from (line + " ", " " + line, line + "\n", "\n" + line, line.upper(), line + " x", line + " 1", "")
    for at in range(len(words)):
        yield " ".join(words[:at] + words[at + 1:])
        yield " ".join(words[:at + 1] + words[at:])
        yield " ".join(words[:at + 1] + [""] + words[at + 1:])
        yield " ".join(words[:at + 1]) + "\n" + " ".join(words[at + 1:])
        for word in others:
            yield " ".join(words[:at] + [word] + words[at + 1:])
        if at > 0:
            yield " ".join(words[:at - 1] + [words[at], words[at - 1]] + words[at + 1:])


class Forms(Refusals):
    def test_good_lines(self):
        for line in GOOD_LINES:
            self.assertTrue(good_form(line))
            self.assertIs(type(new_desk().say(line)), str)
            self.assertEqual(new_desk().say(line=line), new_desk().say(line))

    def test_lines_that_are_nearly_right(self):
        seen = {True: 0, False: 0}
        for good in GOOD_LINES:
            for line in near_lines(good):
                desk, right = new_desk(), good_form(line)
                seen[right] += 1
                if right:
                    try:
                        self.assertIs(type(desk.say(line)), str)
                    except MeetError as refusal:
                        self.assertNotIsInstance(refusal, NoLine, line)
                        self.assertEqual(state_of(desk), state_of(new_desk()))
                else:
                    self.refused_with(NoLine, line, desk.say, line)
                    self.assertEqual(state_of(desk), state_of(new_desk()))
        self.assertGreater(min(seen.values()), 300)

    def test_no_texts(self):
        desk = new_desk()
        for thing in other_things() + rows() + whole_numbers() + [["names"], ("read",), b"names"]:
            self.refused_with(NoLine, thing, desk.say, thing)
        self.assertEqual(state_of(desk), state_of(new_desk()))

    def test_other_texts(self):
        desk = new_desk()
        for line in (
            "", " ", "  ", "\n", "names\n", "names names", "x", "say names", "Names", "plan", "plan a", "plan a ",
            "plan  a b", "plan lots many 1 ( x )", "plan all x", "drop", "drop two two", "text", "lots", "lots lots",
            "lots none", "meets two x", "alike two", "alike two two two", "other two", "other two all",
            "widen two falls", "may", "decides", "settled", "more", "hopes", "chance", "chance two 1/2 x",
            "chance two 2/4", "chance two 1/1",
            "chance two 0/1", "chance two 01", "chance two -1", "chance two 1/2 ( )", "chance no 2/4", "keep two",
            "keep two two two", "keep all two", "fall", "fall x y", "come", "come x x", "write", "write 1 1", "write x",
            "write -0", "write 00", "write 01", "write -01", "write 1234567890", "write +1", "write 1.0", "write --1",
            "read x", "undo 1", "missed x", "stands two", "writes 1", "reads", "~", "x" * 61447,
            "plan two\nmany 1 ( x )",
        ):
            self.refused_with(NoLine, line, desk.say, line)
        self.assertEqual(state_of(desk), state_of(new_desk()))

    def test_numbers_of_nine_figures(self):
        desk = new_desk()
        for word in ("999999999", "-999999999", "100000000", "0", "-1", "9"):
            desk.say(f"write {word}")
            self.assertEqual(desk.say("read").split(" ")[0], word)

    def test_names_that_look_like_words_of_forms(self):
        desk = Desk()
        for name in ("plan", "names", "drop", "keep", "read", "undo", "other", "a", "zzzzzz"):
            self.assertEqual(desk.say(f"plan {name} many 1 ( plan )"), "houses 1 lots 1")
            self.assertEqual(desk.say(f"lots {name}"), "( plan )")
        self.assertEqual(desk.say("names"), "plan names drop keep read undo other a zzzzzz")

    def test_shares_of_400_figures(self):
        desk = new_desk()
        line = "chance two 1/" + "9" * 400 + " 0 0"
        self.assertEqual(type(self.refused(NoChance, desk.say, line).found), dict)
        line = "chance two 1/" + "9" * 401 + " 0 0"
        self.refused_with(NoLine, line, desk.say, line)


class Kept(Refusals):
    def test_plans(self):
        desk = Desk()
        self.assertEqual(desk.say("names"), "nothing")
        self.assertEqual(desk.say("plan b lots ( x y ) ( y x ) ( y )"), "houses 2 lots 1")
        self.assertEqual(desk.say("plan a lots ( x )"), "houses 1 lots 0")
        self.assertEqual(desk.say("plan c many 0 ( x y )"), "houses 2 lots 1")
        self.assertEqual(desk.say("names"), "b a c")
        self.assertEqual(desk.say("text b"), "lots ( x y ) ( y ) ( x y )")
        self.assertEqual(desk.say("lots b"), "( y )")
        self.assertEqual(desk.say("lots a"), "nothing")
        self.assertEqual(desk.say("lots c"), "( )")
        # Kept again it stays at its place; dropped and kept it goes behind all others.
        self.assertEqual(desk.say("plan b many 2 ( p q r )"), "houses 3 lots 3")
        self.assertEqual((desk.say("names"), desk.say("lots b")), ("b a c", "( p q ) ( p r ) ( q r )"))
        self.assertEqual(desk.say("drop b"), "dropped b")
        self.assertEqual(desk.say("names"), "a c")
        self.assertEqual(self.refused(NoSystem, desk.say, "drop b").name, "b")
        self.assertEqual(self.refused(NoSystem, desk.say, "text b").name, "b")
        desk.say("plan b wall ( x )")
        self.assertEqual(desk.say("names"), "a c b")
        for name in "acb":
            desk.say(f"drop {name}")
        self.assertEqual(desk.say("names"), "nothing")

    def test_names_that_are_not_kept(self):
        desk = Desk()
        desk.say("plan two many 2 ( x y z )")
        for word in "drop text lots decides meets settled may more hopes load weights chance turns".split():
            self.assertEqual(self.refused(NoSystem, desk.say, f"{word} no").name, "no")
        for line in ("decides no x x", "settled no q", "more no q", "hopes no x x", "chance no 5 1/2", "other no two",
                     "widen no no", "alike no nor", "alike two no", "keep no nor", "keep two no", "keep no two"):
            self.assertEqual(self.refused(NoSystem, desk.say, line).name, "no")
        self.assertEqual(desk.say("names"), "two")
        # The new name needs no plan.
        self.assertEqual(desk.say("other two no"), "( x y ) ( x z ) ( y z )")
        self.assertEqual(desk.say("names"), "two no")

    def test_refused_plans_change_nothing(self):
        desk = Desk()
        desk.say("plan a many 1 ( x )")
        for line, kind, field, found in (
            ("plan a many 2 ( x )", NoNumber, "found", 2), ("plan a x", NoText, "place", 0),
            ("plan b many 1 ( x", NoText, "place", 4), ("plan b many 1 ( x ) )", NoText, "place", 5),
            ("plan b many 1 ( x x )", NoHouses, "found", ["x", "x"]),
            ("plan b grid ( x ) ( y z )", NoPlan, "found", [["x"], ["y", "z"]]),
            ("plan b lots ( x ) ( y )", NoHouse, "found", "y"), ("plan a lots ( x ) ( x x )", Twice, "found", "x"),
            ("plan b plan c many 1 ( x )", NoText, "place", 0), ("plan b lots ( lots )", NoText, "place", 2),
        ):
            self.assertEqual(getattr(self.refused(kind, desk.say, line), field), found)
        self.assertEqual((desk.say("names"), desk.say("text a")), ("a", "many 1 ( x )"))

    def test_two_desks_by_turns(self):
        one, other = Desk(), Desk()
        one.say("plan a many 1 ( x y )")
        self.assertEqual(other.say("names"), "nothing")
        other.say("plan a many 2 ( x y )")
        other.say("plan b many 2 ( x y )")
        self.assertEqual((one.say("lots a"), other.say("lots a")), ("( x ) ( y )", "( x y )"))
        other.say("keep a a")
        self.assertIsNone(self.refused(NoKind, one.say, "read").found)
        one.say("plan k many 2 ( x y )")
        one.say("keep k k")
        one.say("write 3")
        self.assertEqual((one.say("read"), other.say("read")), ("3 1 x", "0 0 x"))
        other.say("drop a")
        self.assertEqual((one.say("names"), other.say("names")), ("a k", "b"))


class OfPlans(Refusals):
    def desk_with(self, plan):
        desk = Desk()
        desk.say(f"plan a {plan_text(plan)}")
        return desk

    def test_what_plans_tell(self):
        for plan in some_plans(80, 5):
            desk, system = self.desk_with(plan), plan.system()
            self.assertEqual(desk.say(f"plan b {plan_text(plan)}"),
                             f"houses {len(plan.houses())} lots {len(system.lots())}")
            self.assertEqual(desk.say("text a"), plan_text(plan))
            self.assertEqual(desk.say("lots a"), all_shown(system.lots()))
            pair = system.apart()
            self.assertEqual(desk.say("meets a"), "yes" if pair is None else f"no {shown(pair[0])} {shown(pair[1])}")
            self.assertEqual(desk.say("alike a b"), "yes")
            self.assertEqual(desk.say("may a"), " ".join([str(may_fall(system))] + [
                shown(some) for some in least_falls(system)
            ]))
            told = turns(system)
            self.assertEqual(desk.say("turns a"), " ".join(f"{name} {share_text(told[name])}" for name in told))
            self.assertEqual(desk.say("weights a"), "yes" if weights_of(system)[0] == "weights" else "no")
            if system.lots():
                self.assertEqual(desk.say("load a"), share_text(least_load(system)[0]))
            else:
                self.assertEqual(self.refused(NoLots, desk.say, "load a").found, [])

    def test_sets(self):
        for plan in some_plans(40, 4):
            desk, system = self.desk_with(plan), plan.system()
            for some in all_sets(plan.houses()):
                words = "".join(f" {name}" for name in some[::-1])
                self.assertEqual(desk.say(f"decides a{words}"), "yes" if plan.decides(some) else "no")
                word, found = settled(system, some)
                self.assertEqual(desk.say(f"settled a{words}"), f"{word} {shown(found)}")
                self.assertEqual(desk.say(f"more a{words}"), str(more_may_fall(system, some)))
                if system.standing(some) is None:
                    self.assertEqual(self.refused(NoneStands, desk.say, f"hopes a{words}").kind, "lots")
                else:
                    self.assertEqual(desk.say(f"hopes a{words}"), " ".join(last_hopes(system, some)) or "nothing")

    def test_refused_sets(self):
        desk = new_desk()
        for word in ("decides", "settled", "more", "hopes"):
            for line, kind, found in (
                ("q", NoHouse, "q"), ("x (", NoHouse, "("), ("x lots", NoHouse, "lots"), ("x x q", Twice, "x"),
                ("x q x", NoHouse, "q"), ("-0", NoHouse, "-0"), ("X", NoHouse, "X"),
            ):
                self.assertEqual(self.refused(kind, desk.say, f"{word} two {line}").found, found)

    def test_alike(self):
        desk = Desk()
        for name, text in (("a", "many 2 ( x y z )"), ("b", "lots ( x y z ) ( x y ) ( x z ) ( z y ) ( x y z )"),
                           ("c", "many 2 ( x z y )"), ("d", "many 1 ( x y z )"), ("e", "many 2 ( x y )")):
            desk.say(f"plan {name} {text}")
        self.assertEqual([desk.say(f"alike a {name}") for name in "abcde"], ["yes", "yes", "no", "no", "no"])
        self.assertEqual([desk.say(f"alike {name} a") for name in "abcde"], ["yes", "yes", "no", "no", "no"])

    def test_other_sides(self):
        for plan in some_plans(50, 5):
            desk, other = self.desk_with(plan), other_side(plan.system())
            self.assertEqual(desk.say("other a b"), all_shown(other.lots()))
            self.assertEqual((desk.say("names"), desk.say("text b")), ("a b", system_text(other)))
            self.assertEqual(desk.say("lots b"), all_shown(other.lots()))
            # In the place of the plan itself, and the other side of that.
            self.assertEqual(desk.say("other a a"), all_shown(other.lots()))
            self.assertEqual((desk.say("names"), desk.say("alike a b")), ("a b", "yes"))
            desk.say("other a a")
            self.assertEqual(desk.say("text a"), system_text(plan.system()))

    def test_widened(self):
        seen = [0, 0]
        for plan in some_plans(80, 5):
            desk, system = self.desk_with(plan), plan.system()
            desk.say("plan b wall ( x )")
            seen[system.meets()] += 1
            if system.meets():
                wide = widened(system)[0]
                self.assertEqual(desk.say("widen a b"), all_shown(wide.lots()))
                self.assertEqual((desk.say("names"), desk.say("text b")), ("a b", system_text(wide)))
                self.assertEqual(desk.say("widen a c"), all_shown(wide.lots()))
                self.assertEqual(desk.say("names"), "a b c")
            else:
                refusal = self.refused(Apart, desk.say, "widen a b")
                self.assertEqual((refusal.one, refusal.other), system.apart())
                self.assertEqual((desk.say("names"), desk.say("text b")), ("a b", "wall ( x )"))
                self.refused(Apart, desk.say, "widen a c")
                self.assertEqual(desk.say("names"), "a b")
        self.assertGreater(min(seen), 5)

    def test_edges(self):
        desk = Desk()
        for name, text in (("no", "lots ( x )"), ("empty", "lots ( x ) ( )"), ("x", "lots ( x ) ( x )")):
            desk.say(f"plan {name} {text}")
        self.assertEqual(desk.say("other no a"), "( )")
        self.assertEqual(desk.say("other empty a"), "nothing")
        self.assertEqual(desk.say("text a"), "lots ( x )")
        self.assertEqual(desk.say("widen no a"), "( x )")
        self.assertEqual(desk.say("settled no"), "falls ( )")
        self.assertEqual(desk.say("settled empty x"), "stands ( )")
        self.assertEqual(desk.say("meets no"), "yes")
        self.assertEqual(desk.say("meets empty"), "no ( ) ( )")
        self.assertEqual(desk.say("may no"), "-1 ( )")
        self.assertEqual(desk.say("may empty"), "1")
        self.assertEqual(desk.say("may x"), "0 ( x )")
        self.assertEqual(desk.say("more no x"), "-1")
        self.assertEqual(desk.say("hopes empty"), "nothing")
        self.assertEqual(desk.say("hopes x"), "x")
        self.assertEqual(desk.say("load empty"), "0")
        self.assertEqual(desk.say("load x"), "1")
        self.assertEqual(desk.say("weights no"), "yes")
        self.assertEqual(desk.say("chance no 1/2"), "0")
        self.assertEqual(desk.say("chance empty 1"), "1")
        self.assertEqual(desk.say("chance x 1/3"), "2/3")
        self.assertEqual(desk.say("turns no"), "x 0")
        self.assertEqual(desk.say("turns x"), "x 1")
        self.assertEqual(desk.say("decides empty"), "yes")
        self.assertEqual(desk.say("decides no x"), "no")

    def test_twelve_houses(self):
        desk = Desk()
        self.assertEqual(desk.say(f"plan a many 7 ( {' '.join(TWELVE)} )"), "houses 12 lots 792")
        self.assertEqual(desk.say("other a b").count("("), 924)
        self.assertEqual(desk.say("text b").count("("), 925)
        # All sixes with the first house, and all sevens without it.
        self.assertEqual(desk.say("widen a c").count("("), 462 + 330)
        self.assertEqual(desk.say("meets c"), "yes")
        self.assertEqual(self.refused(TooMany, desk.say, "load a").found, 792)
        self.assertEqual(self.refused(TooMany, desk.say, "weights a").found, 792)
        self.assertEqual(desk.say("turns a"), " ".join(f"{name} 1/12" for name in TWELVE))
        self.assertEqual(desk.say("keep a b"), "kept")

    def test_a_load_and_no_weights(self):
        desk = Desk()
        desk.say("plan a lots ( p q r s ) ( p q ) ( r s )")
        self.assertEqual((desk.say("weights a"), desk.say("load a")), ("no", "1/2"))

    def test_chances(self):
        source = random.Random(101)
        for plan in some_plans(50, 5):
            desk, names = self.desk_with(plan), plan.houses()
            shares = [source.choice([(0, 1), (1, 1), (1, 2), (1, 3), (999, 1000), (3, 7)]) for name in names]
            words = "".join(f" {share_text(share)}" for share in shares)
            self.assertEqual(desk.say(f"chance a{words}"), share_text(chance(plan.system(), dict(zip(names, shares)))))
            for told in (shares[1:], shares + [(1, 2)], shares + [(5, 1)]):
                words = "".join(f" {share_text(share)}" for share in told)
                refusal = self.refused(NoChance, desk.say, f"chance a{words}")
                self.assertEqual((type(refusal.found), refusal.found), (list, told))
            for bad in ((2, 1), (1, 1001), (3, 2)):
                words = "".join(f" {share_text(share)}" for share in shares[1:] + [bad])
                refusal = self.refused(NoChance, desk.say, f"chance a{words}")
                self.assertEqual((type(refusal.found), refusal.found), (dict, dict(zip(names, shares[1:] + [bad]))))


class Keepers(Refusals):
    def test_without_a_keeper(self):
        desk = Desk()
        desk.say("plan a many 2 ( x y z )")
        for line in ("fall x", "come x", "write 1", "read", "undo", "missed", "fall q"):
            self.assertIsNone(self.refused(NoKind, desk.say, line).found)
        for line in ("fall", "write x", "read read"):
            self.refused_with(NoLine, line, desk.say, line)

    def test_a_keeper(self):
        desk = Desk()
        desk.say("plan a many 2 ( x y z )")
        for line, answer in (
            ("keep a a", "kept"), ("read", "0 0 x"), ("missed", "x 0 y 0 z 0"), ("write 7", "1 ( x y ) ( x y )"),
            ("read", "7 1 x"), ("missed", "x 0 y 0 z 1"), ("fall x", "x"), ("write -12", "2 ( y z ) ( y z )"),
            ("read", "-12 2 y"), ("come x", "nothing"), ("missed", "x 1 y 0 z 0"), ("read", "-12 2 y"),
            ("fall z", "z"), ("fall y", "y z"), ("undo", "undone"), ("undo", "undone"), ("undo", "undone"),
            ("missed", "x 1 y 0 z 0"), ("undo", "undone"), ("missed", "x 0 y 0 z 1"), ("undo", "undone"),
            ("read", "7 1 x"), ("undo", "undone"), ("read", "0 0 x"),
        ):
            self.assertEqual(desk.say(line), answer, line)
        self.refused(NoUndo, desk.say, "undo")

    def test_refused(self):
        desk = Desk()
        desk.say("plan a many 2 ( x y z )")
        desk.say("keep a a")
        desk.say("fall x")
        self.assertEqual(self.refused(Fallen, desk.say, "fall x").name, "x")
        self.assertEqual(self.refused(Standing, desk.say, "come y").name, "y")
        for word in ("q", "X", "(", "lots", "a", "-1"):
            self.assertEqual(self.refused(NoHouse, desk.say, f"fall {word}").found, word)
            self.assertEqual(self.refused(NoHouse, desk.say, f"come {word}").found, word)
        desk.say("fall z")
        self.assertEqual(self.refused(NoneStands, desk.say, "read").kind, "reads")
        self.assertEqual(self.refused(NoneStands, desk.say, "write 1").kind, "reads")
        self.assertEqual(desk.say("come z"), "x")
        self.assertEqual(desk.say("undo"), "undone")

    def test_keep(self):
        desk = Desk()
        for name, text in (("a", "many 2 ( x y z )"), ("b", "many 1 ( x y z )"), ("c", "many 2 ( y x z )"),
                           ("d", "many 3 ( x y z )"), ("e", "many 0 ( x y z )"), ("f", "lots ( x y z )")):
            desk.say(f"plan {name} {text}")
        desk.say("keep a a")
        desk.say("write 4")
        refusal = self.refused(Apart, desk.say, "keep a b")
        self.assertEqual((refusal.one, refusal.other), (["x", "y"], ["z"]))
        self.assertEqual(self.refused(NoHouses, desk.say, "keep a c").found, ["y", "x", "z"])
        self.assertEqual(desk.say("read"), "4 1 x")
        # The reads stand ahead.
        self.assertEqual(desk.say("keep b d"), "kept")
        self.assertEqual(desk.say("write 4"), "1 ( x ) ( x y z )")
        self.assertEqual(desk.say("keep d b"), "kept")
        self.assertEqual(desk.say("read"), "0 0 x")
        self.assertEqual(desk.say("write 4"), "1 ( x y z ) ( x )")
        self.assertEqual(desk.say("keep e f"), "kept")
        self.assertEqual(desk.say("read"), "0 0 -")
        self.assertEqual(self.refused(NoneStands, desk.say, "write 1").kind, "writes")
        desk.say("keep f e")
        self.assertEqual(self.refused(NoneStands, desk.say, "write 1").kind, "reads")

    def test_the_keeper_stays_when_its_plans_go(self):
        desk = Desk()
        desk.say("plan a many 2 ( x y z )")
        desk.say("keep a a")
        desk.say("write 4")
        desk.say("plan a many 1 ( q )")
        self.assertEqual(desk.say("read"), "4 1 x")
        desk.say("drop a")
        self.assertEqual((desk.say("fall y"), desk.say("read"), desk.say("names")), ("y", "4 1 x", "nothing"))


class Answers(unittest.TestCase):
    def test_the_same_question_has_the_same_answer(self):
        one, other = new_desk(), new_desk()
        for line in GOOD_LINES:
            if line.split(" ")[0] not in ("drop", "fall", "come", "write", "undo", "keep", "plan", "other", "widen"):
                self.assertEqual(one.say(line), one.say(line))
                self.assertEqual(one.say(line), other.say(line))

    def test_texts_of_plans_come_back(self):
        for plan in some_plans(60, 6, 3):
            desk = Desk()
            desk.say(f"plan a {plan_text(plan)}")
            self.assertEqual(read_plan(desk.say("text a")).told(), plan.told())


if __name__ == "__main__":
    unittest.main()
