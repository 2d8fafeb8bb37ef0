"""Promise 0.3: the classes of errors and their fields."""

import wholeways.errors
from wholeways.errors import StoreError

from tests.helping import Case, odd_things

PLAIN = """Ended BadDisk NoBlock NoContent NothingWaits Stopped NoRecord LogFull NoPage NoItems NoRoom NoNote TooLarge
Over NoSpot NoMark NotThere NoCommit NoChanges NoSnapshot NoKey NoWorth NoNumber NotOpen BadSeen BadWrites
NotRemembered NoIndex NoOrder NotSerial NoSnapshots NoVersion NoLine InUse NoLines NotWhole NoNode NodeThere NodeTied
NoTieWord NoWeight TieThere NotATie NoPlan NoPath NoExpression NoPlace NoQuestion NoDeed NotKept""".split()

FIELDS = {"Refused": "ring", "BadDealing": "part", "NoPlay": "part", "BadGraph": "part", "BadHistory": "index",
          "NoVersions": "index", "TooMany": "most", "NoName": "name", "NotANode": "name", "BadSigns": "at"}


def class_of(name):
    return getattr(wholeways.errors, name)


class Errors(Case):
    def test_there_are_sixty_and_their_base(self):
        self.assertEqual(len(PLAIN) + len(FIELDS), 60)
        found = [name for name, thing in vars(wholeways.errors).items() if isinstance(thing, type)]
        self.assertEqual(sorted(found), sorted(PLAIN + list(FIELDS) + ["StoreError"]))

    def test_each_derives_directly(self):
        self.assertEqual(StoreError.__bases__, (ValueError,))
        for name in PLAIN + list(FIELDS):
            self.assertEqual(class_of(name).__bases__, (StoreError,), name)
            self.assertEqual(class_of(name).__module__, "wholeways.errors")

    def test_without_a_field(self):
        for name in PLAIN + ["StoreError"]:
            error = class_of(name)()
            self.assertEqual(vars(error), {}, name)
            with self.assertRaises(StoreError):
                raise error
            with self.assertRaises(TypeError):
                class_of(name)(1)

    def test_a_field_keeps_what_is_passed(self):
        for name, field in FIELDS.items():
            for thing in odd_things() + [1.5, 2j, {1, 2}]:
                error = class_of(name)(thing)
                self.assertIs(getattr(error, field), thing)
                self.assertEqual(list(vars(error)), [field])

    def test_a_field_is_asked_for(self):
        for name in FIELDS:
            self.assertRaises(TypeError, class_of(name))
            self.assertRaises(TypeError, class_of(name), 1, 2)

    def test_an_error_equals_itself_alone(self):
        for name in FIELDS:
            self.assertNotEqual(class_of(name)(1), class_of(name)(1))
