"""The four refusals, their family and their fields."""

import unittest

from withinall.errors import NoPlace, NoProgram, NoRow, NoText, WithinError

FIELDS = {NoProgram: "spot", NoText: "row", NoPlace: "place", NoRow: "row"}
WORTHS = (0, 7, -10 ** 59, 10 ** 5000, True, False, "", "main:0\nx", None, (), (None, None), ("main", 0), [], [1, [2]],
          {"a": 1})


class TestErrors(unittest.TestCase):
    def test_family(self):
        self.assertTrue(issubclass(WithinError, ValueError))
        for one in FIELDS:
            self.assertTrue(issubclass(one, WithinError))
            for other in FIELDS:
                self.assertEqual(issubclass(one, other), one is other)

    def test_field_by_place_and_by_name(self):
        for kind, field in FIELDS.items():
            for worth in WORTHS:
                self.assertIs(getattr(kind(worth), field), worth)
                self.assertIs(getattr(kind(**{field: worth}), field), worth)

    def test_caught_as_what_they_are(self):
        for kind in FIELDS:
            for caught in (kind, WithinError, ValueError):
                with self.assertRaises(caught):
                    raise kind(("main", 0))
            for other in FIELDS:
                if other is not kind:
                    self.assertNotIsInstance(kind(0), other)

    def test_shown_whatever_the_field_is(self):
        for kind in FIELDS:
            for worth in WORTHS:
                self.assertIsInstance(str(kind(worth)), str)
                self.assertIsInstance(repr(kind(worth)), str)

    def test_field_is_needed(self):
        for kind in FIELDS:
            with self.assertRaises(TypeError):
                kind()


if __name__ == "__main__":
    unittest.main()
