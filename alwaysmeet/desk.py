"""A desk that answers lines: it keeps plans by names, and a keeper of values."""

from alwaysmeet.chances import chance, turns
from alwaysmeet.errors import NoChance, NoKind, NoSystem
from alwaysmeet.falls import last_hopes, least_falls, may_fall, more_may_fall
from alwaysmeet.fractions import share_text
from alwaysmeet.keeping import Kept
from alwaysmeet.lines import names_in, read_line
from alwaysmeet.loads import least_load
from alwaysmeet.otherside import other_side, settled
from alwaysmeet.plantext import groups_words, plan_text, read_plan, system_text
from alwaysmeet.twokinds import Two
from alwaysmeet.voting import weights_of
from alwaysmeet.widening import widened

KEEPER_WORDS = ("fall", "come", "write", "read", "undo", "missed")


def yes_or_no(truth):
    """The word of a truth, as a list."""
    return ["yes" if truth else "no"]


def system_at(desk, name):
    """The system of the plan that is kept under the name."""
    return desk.plans[name][1]


def keep_plan(desk, name, text):
    """Keeps the plan of a text under the name, and tells its system."""
    plan = read_plan(text)
    # The system is kept, too, as it is asked for by most lines.
    desk.plans[name] = (plan, plan.system())
    return system_at(desk, name)


def say_plan(desk, parts):
    system = keep_plan(desk, parts[0], parts[1])
    return ["houses", str(len(system.houses())), "lots", str(len(system.lots()))]


def say_drop(desk, parts):
    del desk.plans[parts[0]]
    return ["dropped", parts[0]]


def say_names(desk, parts):
    return list(desk.plans)


def say_text(desk, parts):
    return [plan_text(desk.plans[parts[0]][0])]


def say_lots(desk, parts):
    return groups_words(system_at(desk, parts[0]).lots())


def say_decides(desk, parts):
    return yes_or_no(system_at(desk, parts[0]).decides(parts[1]))


def say_meets(desk, parts):
    pair = system_at(desk, parts[0]).apart()
    return yes_or_no(True) if pair is None else yes_or_no(False) + groups_words(pair)


def say_alike(desk, parts):
    return yes_or_no(system_at(desk, parts[0]).alike(system_at(desk, parts[1])))


def say_other(desk, parts):
    side = other_side(system_at(desk, parts[0]))
    return groups_words(keep_plan(desk, parts[1], system_text(side)).lots())


def say_widen(desk, parts):
    wide = widened(system_at(desk, parts[0]))[0]
    return groups_words(keep_plan(desk, parts[1], system_text(wide)).lots())


def say_settled(desk, parts):
    word, some = settled(system_at(desk, parts[0]), parts[1])
    return [word] + groups_words([some])


def say_may(desk, parts):
    system = system_at(desk, parts[0])
    return [str(may_fall(system))] + groups_words(least_falls(system))


def say_more(desk, parts):
    return [str(more_may_fall(system_at(desk, parts[0]), parts[1]))]


def say_hopes(desk, parts):
    return last_hopes(system_at(desk, parts[0]), parts[1])


def say_load(desk, parts):
    return [share_text(least_load(system_at(desk, parts[0]))[0])]


def say_weights(desk, parts):
    return yes_or_no(weights_of(system_at(desk, parts[0]))[0] == "weights")


def say_chance(desk, parts):
    system, shares = system_at(desk, parts[0]), parts[1]
    names = system.houses()
    if len(shares) != len(names):
        raise NoChance(shares)
    return [share_text(chance(system, dict(zip(names, shares))))]


def say_turns(desk, parts):
    told = turns(system_at(desk, parts[0]))
    return [word for name, share in told.items() for word in (name, share_text(share))]


def say_keep(desk, parts):
    desk.keeper = Kept(Two(system_at(desk, parts[0]), system_at(desk, parts[1])))
    return ["kept"]


def say_fall(desk, parts):
    desk.keeper.fall(parts[0])
    return desk.keeper.fallen()


def say_come(desk, parts):
    desk.keeper.come(parts[0])
    return desk.keeper.fallen()


def say_write(desk, parts):
    stamp, asked, lot = desk.keeper.write(parts[0])
    return [str(stamp)] + groups_words([asked, lot])


def say_read(desk, parts):
    value, stamp, house = desk.keeper.read()
    return [str(value), str(stamp), "-" if house is None else house]


def say_undo(desk, parts):
    desk.keeper.undo()
    return ["undone"]


def say_missed(desk, parts):
    return [word for name, many in desk.keeper.missed().items() for word in (name, str(many))]


# By each line's first word what tells the words of its answer.
ANSWERS = {
    "plan": say_plan,
    "drop": say_drop,
    "names": say_names,
    "text": say_text,
    "lots": say_lots,
    "decides": say_decides,
    "meets": say_meets,
    "alike": say_alike,
    "other": say_other,
    "widen": say_widen,
    "settled": say_settled,
    "may": say_may,
    "more": say_more,
    "hopes": say_hopes,
    "load": say_load,
    "weights": say_weights,
    "chance": say_chance,
    "turns": say_turns,
    "keep": say_keep,
    "fall": say_fall,
    "come": say_come,
    "write": say_write,
    "read": say_read,
    "undo": say_undo,
    "missed": say_missed,
}


class Desk:
    """Plans by names, each with its system, and a keeper of values or None."""

    def __init__(self):
        self.plans = {}
        self.keeper = None

    def say(self, line):
        """The answer to a line."""
        word, parts = read_line(line)
        for name in names_in(word, parts):
            if name not in self.plans:
                raise NoSystem(name)
        if word in KEEPER_WORDS and self.keeper is None:
            raise NoKind(None)
        answer = ANSWERS[word]
        told = answer(self, parts)
        return " ".join(told) if len(told) > 0 else "nothing"
