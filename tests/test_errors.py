"""Promise [2] and the interface's paragraph on errors."""

import unittest

from pactboards.errors import (
    NoHouse, NoMark, NoRow, NoTable, NoText, NotGood, NotMeek, PactError, TooMany)

WITH_FIELD = {
    "at": (NoTable, 0, 7),
    "place": (NoHouse, ("board", 0), ("line", 2, 5)),
    "row": (NoText, 0, 12),
    "most": (TooMany, 500, 1),
    "board": (NotMeek, 0, 3),
}
WITHOUT_FIELD = (NoMark, NotGood, NoRow)
REFUSALS = tuple(entry[0] for entry in WITH_FIELD.values()) + WITHOUT_FIELD


def one_of_each():
    made = [refusal(value) for refusal, value, other in WITH_FIELD.values()]
    return made + [refusal() for refusal in WITHOUT_FIELD]


class Classes(unittest.TestCase):
    def test_eight_refusals_of_their_names(self):
        names = [refusal.__name__ for refusal in REFUSALS]
        self.assertEqual(names, ["NoTable", "NoHouse", "NoText", "TooMany", "NotMeek",
                                 "NoMark", "NotGood", "NoRow"])

    def test_each_is_a_pact_error_and_a_value_error(self):
        self.assertTrue(issubclass(PactError, ValueError))
        for error in one_of_each():
            with self.subTest(error=error):
                self.assertIsInstance(error, PactError)
                self.assertIsInstance(error, ValueError)

    def test_none_is_one_of_the_seven_others(self):
        for k, error in enumerate(one_of_each()):
            for n, refusal in enumerate(REFUSALS):
                with self.subTest(error=error, refusal=refusal):
                    self.assertEqual(isinstance(error, refusal), k == n)

    def test_pact_error_is_none_of_them(self):
        for refusal in REFUSALS:
            self.assertNotIsInstance(PactError(), refusal)

    def test_each_is_raised_and_taken_as_its_own_and_as_a_pact_error(self):
        for error in one_of_each():
            for kind in (error.__class__, PactError, ValueError):
                with self.subTest(error=error, kind=kind), self.assertRaises(kind):
                    raise error


class Fields(unittest.TestCase):
    def test_each_keeps_what_it_is_made_with(self):
        for name, (refusal, value, other) in WITH_FIELD.items():
            with self.subTest(refusal=refusal):
                self.assertEqual(getattr(refusal(value), name), value)
                self.assertEqual(getattr(refusal(other), name), other)

    def test_a_second_one_changes_nothing_of_the_first(self):
        for name, (refusal, value, other) in WITH_FIELD.items():
            with self.subTest(refusal=refusal):
                one, two = refusal(value), refusal(other)
                self.assertEqual(getattr(one, name), value)
                self.assertEqual(getattr(two, name), other)
                self.assertEqual(getattr(one, name), value)

    def test_each_is_made_by_the_name_of_its_field_too(self):
        for name, (refusal, value, other) in WITH_FIELD.items():
            with self.subTest(refusal=refusal):
                self.assertEqual(getattr(refusal(**{name: other}), name), other)

    def test_each_is_made_of_just_what_stands_in_its_brackets(self):
        for refusal, value, other in WITH_FIELD.values():
            with self.subTest(refusal=refusal), self.assertRaises(TypeError):
                refusal()
        for refusal in WITHOUT_FIELD:
            with self.subTest(refusal=refusal):
                self.assertIsInstance(refusal(), refusal)


if __name__ == "__main__":
    unittest.main()
