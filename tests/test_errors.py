"""The refusals: their classes, what they keep, what takes them."""

import unittest

from whens.errors import (
    NoClash, NoLevel, NoNumber, NoPaper, NoPlain, NoRow, NoSaying, NoSpan, NoText, NoThing, SayError, TooMany,
)

from layouts import ODD, Case

FIELDS = (
    (NoText, ("row", "word")), (NoPaper, ("path", "word")), (NoPlain, ("number",)), (TooMany, ("word",)),
    (NoSpan, ("word",)), (NoClash, ("word", "number")), (NoThing, ("name",)),
    (NoSaying, ()), (NoLevel, ()), (NoNumber, ()), (NoRow, ()),
)
CLASSES = tuple(refusal for refusal, fields in FIELDS)


def taken(refusal, catcher):
    """Whether what is raised is taken by the catcher."""
    try:
        raise refusal
    except catcher:
        return True
    except Exception:
        return False


def made(refusal, fields):
    """A refusal of its class."""
    return refusal(*[name for name in fields]) if fields else refusal("some text")


class Errors(Case):
    def test_each_is_straight_under_the_base(self):
        self.assertEqual(SayError.__bases__, (ValueError,))
        for refusal in CLASSES:
            self.assertEqual(refusal.__bases__, (SayError,), refusal)

    def test_taken_by_its_own_class_the_base_and_value_error(self):
        for refusal, fields in FIELDS:
            for catcher in (refusal, SayError, ValueError):
                self.assertTrue(taken(made(refusal, fields), catcher), (refusal, catcher))

    def test_taken_by_no_other_class(self):
        for refusal, fields in FIELDS:
            for catcher in CLASSES + (TypeError, LookupError, ArithmeticError, RuntimeError, AttributeError):
                if catcher is not refusal:
                    self.assertFalse(taken(made(refusal, fields), catcher), (refusal, catcher))

    def test_fields_keep_what_was_handed_in_by_place(self):
        for refusal, fields in FIELDS:
            found = made(refusal, fields)
            for name in fields:
                self.assertEqual(getattr(found, name), name, refusal)

    def test_any_plain_things_are_kept_the_very_ones(self):
        for thing in ODD:
            for refusal, fields in FIELDS:
                if fields:
                    others = [object() for name in fields[1:]]
                    found = refusal(thing, *others)
                    for name, kept in zip(fields, [thing] + others):
                        self.assertIs(getattr(found, name), kept)

    def test_a_list_within_is_neither_copied_nor_changed(self):
        path = [1, [2, 3]]
        found = NoPaper(path, "step")
        self.assertIs(found.path, path)
        self.assertEqual(path, [1, [2, 3]])

    def test_those_of_a_text_take_any_text(self):
        for refusal in (NoSaying, NoLevel, NoNumber, NoRow):
            for text in ("", "x", "no such one", "~" * 500):
                self.assertTrue(taken(refusal(text), refusal))

    def test_two_of_a_class_are_nothing_to_one_another(self):
        one, other = NoText(1, 2), NoText(3, 4)
        self.assertEqual((one.row, one.word, other.row, other.word), (1, 2, 3, 4))


if __name__ == "__main__":
    unittest.main()
