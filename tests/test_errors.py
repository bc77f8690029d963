"""Promise [8]: the classes of refusals."""

import unittest

from alwaysmeet import errors
from alwaysmeet.errors import MeetError, NoUndo

from things import other_things, rows, texts, whole_numbers

FIELDS = {
    "NoHouses": ["found"],
    "NoHouse": ["found"],
    "NoSet": ["found"],
    "Twice": ["found"],
    "NoLots": ["found"],
    "TooMany": ["found"],
    "NoPlan": ["found"],
    "NoText": ["place"],
    "NoShare": ["found"],
    "NoNumber": ["found"],
    "Apart": ["one", "other"],
    "NoChance": ["found"],
    "NoDealing": ["found"],
    "NoKind": ["found"],
    "NoneStands": ["kind"],
    "Fallen": ["name"],
    "Standing": ["name"],
    "NoValue": ["found"],
    "NoUndo": [],
    "NoSystem": ["name"],
    "NoLine": ["found"],
}


def any_things():
    return other_things() + whole_numbers() + rows() + texts()


class Classes(unittest.TestCase):
    def test_meet_error_stands_under_value_error(self):
        self.assertTrue(issubclass(MeetError, ValueError))
        self.assertEqual(str(MeetError("a text")), "a text")
        with self.assertRaises(ValueError):
            raise MeetError("a text")

    def test_there_are_twenty_one_and_no_others(self):
        found = [name for name, thing in vars(errors).items() if isinstance(thing, type)]
        self.assertEqual(sorted(found), sorted(list(FIELDS) + ["MeetError"]))
        self.assertEqual(len(FIELDS), 21)

    def test_each_stands_straight_under_meet_error(self):
        for name in FIELDS:
            with self.subTest(name):
                self.assertEqual(getattr(errors, name).__bases__, (MeetError,))

    def test_none_is_caught_as_another_one(self):
        kinds = [getattr(errors, name) for name in FIELDS]
        for one in kinds:
            for other in kinds:
                self.assertEqual(issubclass(one, other), one is other)


class Fields(unittest.TestCase):
    def test_fields_are_the_very_things(self):
        for name, fields in FIELDS.items():
            kind = getattr(errors, name)
            for thing in any_things():
                things = [[thing], thing][: len(fields)]
                made = kind(*things)
                with self.subTest(name):
                    self.assertEqual(list(vars(made)), fields)
                    for field, put_in in zip(fields, things):
                        self.assertIs(getattr(made, field), put_in)

    def test_one_thing_is_handed_in_as_it_is(self):
        thing = ["a"]
        for name, fields in FIELDS.items():
            if len(fields) == 1:
                made = getattr(errors, name)(thing)
                self.assertIs(getattr(made, fields[0]), thing)

    def test_a_field_is_no_copy(self):
        thing = ["a"]
        made = errors.NoSet(thing)
        thing.append("b")
        self.assertEqual(made.found, ["a", "b"])

    def test_each_takes_just_so_many_things(self):
        for name, fields in FIELDS.items():
            kind = getattr(errors, name)
            with self.subTest(name):
                self.assertRaises(TypeError, kind, *([0] * (len(fields) + 1)))
                if fields:
                    self.assertRaises(TypeError, kind, *([0] * (len(fields) - 1)))

    def test_no_undo_is_made_of_nothing(self):
        self.assertEqual(vars(NoUndo()), {})

    def test_messages_are_texts_whatever_the_thing(self):
        for name, fields in FIELDS.items():
            kind = getattr(errors, name)
            self.assertTrue(str(kind(*([10**5000] * len(fields)))))


if __name__ == "__main__":
    unittest.main()
