"""Plans and systems as texts, and plans read from texts."""

from alwaysmeet.errors import NoText
from alwaysmeet.plans import Lots, Put, Tree, simple_plan
from alwaysmeet.words import is_name, number_in

MOST_NUMBER = 9999


def bracketed(words):
    """The words with brackets around them."""
    return ["("] + list(words) + [")"]


def groups_words(groups):
    """The words of groups."""
    return [word for group in groups for word in bracketed(group)]


def tree_words(tale):
    """The words of a tree, as it tells itself, without its own word."""
    return [tale[1]] + groups_words([tree_words(way) for way in tale[2]])


def plan_words(tale):
    """The words of a plan, as it tells itself."""
    word = tale[0]
    if word == "lots":
        return [word] + bracketed(tale[1]) + groups_words(tale[2])
    if word == "many":
        return [word, str(tale[1])] + bracketed(tale[2])
    if word == "weights":
        return [word, str(tale[1])] + bracketed([part for name, weight in tale[2] for part in (name, str(weight))])
    if word == "tree":
        return [word] + tree_words(tale)
    if word == "put":
        return [word, tale[1]] + groups_words([plan_words(tale[2]), plan_words(tale[3])])
    return [word] + groups_words(tale[1])


def plan_text(plan):
    """The text of a plan."""
    return " ".join(plan_words(plan.told()))


def system_text(system):
    """The text of the plan that has the system's houses and lots."""
    return plan_text(Lots(system.houses(), system.lots()))


class Reader:
    """The words of a text and a place in them; what can't stand there is refused."""

    def __init__(self, words):
        self.words = words
        self.at = 0

    def ahead(self):
        """The word at the place, or None behind the last one."""
        return self.words[self.at] if self.at < len(self.words) else None

    def take(self, word):
        """Goes by this very word."""
        if self.ahead() != word:
            raise NoText(self.at)
        self.at += 1

    def take_name(self):
        """Goes by a name, and tells it."""
        word = self.ahead()
        if not is_name(word):
            raise NoText(self.at)
        self.at += 1
        return word

    def take_number(self):
        """Goes by a number, and tells it."""
        number = number_in(self.ahead(), 0, MOST_NUMBER)
        if number is None:
            raise NoText(self.at)
        self.at += 1
        return number

    def take_group(self):
        """Goes by a group, and tells the list of its names."""
        self.take("(")
        names = []
        while self.ahead() != ")":
            names.append(self.take_name())
        self.take(")")
        return names

    def take_groups(self):
        """Goes by all groups up to what is none, and tells the list of them."""
        groups = []
        while self.ahead() == "(":
            groups.append(self.take_group())
        return groups

    def take_weights(self):
        """Goes by names with weights in brackets, and tells the list of their tuples."""
        self.take("(")
        rows = []
        while self.ahead() != ")":
            name = self.take_name()
            rows.append((name, self.take_number()))
        self.take(")")
        return rows

    def take_simple(self):
        """Goes by a plan that has no plans within, and tells its word and what it is made of."""
        word = self.ahead()
        if word not in ("lots", "many", "weights", "grid", "wall"):
            raise NoText(self.at)
        self.at += 1
        if word == "lots":
            names = self.take_group()
            return word, names, self.take_groups()
        if word == "many":
            number = self.take_number()
            return word, number, self.take_group()
        if word == "weights":
            mark = self.take_number()
            return word, mark, self.take_weights()
        return word, self.take_groups()


def begin_plan(reader, tasks, steps):
    """Goes by a plan's first words; what has to come behind them is put on the tasks."""
    word = reader.ahead()
    if word == "tree":
        reader.take(word)
        tasks.append(("root",))
    elif word == "put":
        reader.take(word)
        tasks.append(("put", reader.take_name()))
        for turn in range(2):
            tasks.extend([("take", ")"), ("plan",), ("take", "(")])
    else:
        steps.append(reader.take_simple())


def go_on_with_ways(reader, root, count, tasks, steps):
    """Begins one more way of a tree, or ends the tree that has so many."""
    if reader.ahead() == "(":
        reader.take("(")
        tasks.extend([("ways", root, count + 1), ("take", ")"), ("root",)])
    else:
        steps.append(("tree", root, count))


def steps_in(words):
    """What is to be made, in its order, by words of which each one can stand where it stands."""
    reader = Reader(words)
    steps = []
    # The tasks that wait, the next one last: brackets may go deeper than calls should.
    tasks = [("plan",)]
    while len(tasks) > 0:
        task = tasks.pop()
        if task[0] == "plan":
            begin_plan(reader, tasks, steps)
        elif task[0] == "root":
            tasks.append(("ways", reader.take_name(), 0))
        elif task[0] == "ways":
            go_on_with_ways(reader, task[1], task[2], tasks, steps)
        elif task[0] == "take":
            reader.take(task[1])
        else:
            steps.append(task)
    if reader.ahead() is not None:
        raise NoText(reader.at)
    return steps


def make_plan(steps):
    """The plan that comes of the steps."""
    made = []
    for step in steps:
        if step[0] == "tree":
            start = len(made) - step[2]
            ways = made[start:]
            del made[start:]
            made.append(Tree(step[1], ways))
        elif step[0] == "put":
            inner = made.pop()
            outer = made.pop()
            made.append(Put(step[1], outer, inner))
        else:
            made.append(simple_plan(step))
    return made[0]


def read_plan(text):
    """The plan that a text writes."""
    if not isinstance(text, str):
        raise NoText(0)
    return make_plan(steps_in(text.split(" ")))
