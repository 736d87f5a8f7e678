"""The refusals: by what they are caught, their fields, their words."""

import unittest

from farmates import errors

# Class, the class straight above it, its fields.
LEAVES = [
    ("BadNumber", "FarError", ["number"]),
    ("BadName", "FarError", ["name"]),
    ("BadMating", "FarError", ["mating"]),
    ("BadPlace", "FarError", ["place"]),
    ("BadStretch", "FarError", ["at", "many"]),
    ("BadMove", "FarError", ["move"]),
    ("BadMoves", "FarError", ["at"]),
    ("BadBoard", "FarError", ["cell"]),
    ("BadCounts", "FarError", ["cell"]),
    ("BadSide", "FarError", ["side"]),
    ("TooMuch", "FarError", ["number"]),
    ("BadText", "FarError", ["at"]),
    ("BadLine", "FarError", []),
    ("Taken", "FarError", ["name"]),
    ("Full", "FarError", ["most"]),
    ("NoMating", "Missing", ["number"]),
    ("NoRoad", "Missing", ["name"]),
    ("NoSide", "Missing", ["side"]),
    ("NoFamily", "Missing", ["number"]),
    ("NothingLeft", None, []),
]
PYTHONS = {"FarError": ValueError, "Missing": LookupError, None: IndexError}
WORTHS = [0, -1, 10 ** 30, True, False, "", "a b", (1, 2, 3, 4), ("fold", 0, 5)]


class ErrorsTest(unittest.TestCase):
    def test_there_are_twenty_and_two_above_them(self):
        told = {name for name in vars(errors) if isinstance(getattr(errors, name), type)}
        self.assertEqual(len(LEAVES), 20)
        self.assertEqual(told, {row[0] for row in LEAVES} | {"FarError", "Missing"})

    def test_classes_straight_above(self):
        for name, above, fields in LEAVES:
            with self.subTest(name=name):
                python = PYTHONS[above]
                bases = (getattr(errors, above),) if above else (python,)
                self.assertEqual(getattr(errors, name).__bases__, bases)
        self.assertEqual(errors.FarError.__bases__, (ValueError,))
        self.assertEqual(errors.Missing.__bases__, (LookupError,))

    def test_caught_by_own_class_base_and_python_class(self):
        for name, above, fields in LEAVES:
            own = getattr(errors, name)
            catchers = [own, PYTHONS[above]] + ([getattr(errors, above)] if above else [])
            for catcher in catchers:
                with self.subTest(name=name, catcher=catcher.__name__):
                    with self.assertRaises(catcher):
                        raise own(*range(len(fields)))

    def test_not_caught_by_the_other_families(self):
        for name, above, fields in LEAVES:
            error = getattr(errors, name)(*range(len(fields)))
            with self.subTest(name=name):
                self.assertEqual(isinstance(error, ValueError), above == "FarError")
                self.assertEqual(isinstance(error, LookupError), above != "FarError")
                self.assertEqual(isinstance(error, IndexError), above is None)

    def test_fields_are_as_handed_in(self):
        for name, above, fields in LEAVES:
            own = getattr(errors, name)
            for worth in WORTHS if fields else []:
                handed = [worth, "behind"][:len(fields)]
                with self.subTest(name=name, worth=worth):
                    by_place = own(*handed)
                    by_name = own(**dict(zip(fields, handed)))
                    for field, told in zip(fields, handed):
                        self.assertIs(getattr(by_place, field), told)
                        self.assertIs(getattr(by_name, field), told)

    def test_no_other_fields(self):
        for name, above, fields in LEAVES:
            error = getattr(errors, name)(*range(len(fields)))
            with self.subTest(name=name):
                self.assertEqual(sorted(vars(error)), sorted(fields + ["word"]))

    def test_word_is_the_name_of_the_class(self):
        for name, above, fields in LEAVES:
            with self.subTest(name=name):
                self.assertEqual(getattr(errors, name)(*range(len(fields))).word, name)
        self.assertEqual(errors.FarError().word, "FarError")
        self.assertEqual(errors.Missing().word, "Missing")

    def test_takes_just_its_fields(self):
        for name, above, fields in LEAVES:
            with self.subTest(name=name), self.assertRaises(TypeError):
                getattr(errors, name)(*range(len(fields) + 1))


if __name__ == "__main__":
    unittest.main()
