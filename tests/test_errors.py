"""0.8, and the classes of busyweb/errors.py."""

import copy
import pickle
import unittest

from busyweb import errors
from busyweb.errors import BadDeed, BadText, FlowError, NoFlow

PLAIN = ("BadWeb", "TooMany", "BadPlace", "BadTie", "BadFlow", "BadRest", "BadSet", "BadPaper")
ALL = PLAIN + ("NoFlow", "BadText", "BadDeed")


class Classes(unittest.TestCase):
    def test_flow_error_is_a_value_error(self):
        self.assertEqual(FlowError.__bases__, (ValueError,))

    def test_each_stands_straight_beneath_flow_error(self):
        for name in ALL:
            with self.subTest(name):
                self.assertEqual(getattr(errors, name).__bases__, (FlowError,))

    def test_none_beneath_another_one(self):
        classes = [getattr(errors, name) for name in ALL]
        self.assertEqual(len(set(classes)), 11)
        for one in classes:
            for two in classes:
                self.assertEqual(issubclass(one, two), one is two)

    def test_made_with_a_text_or_with_nothing(self):
        for name in PLAIN:
            refusal = getattr(errors, name)
            with self.subTest(name):
                self.assertIsInstance(refusal(), refusal)
                self.assertIsInstance(refusal("some words"), refusal)
                with self.assertRaises(ValueError):
                    raise refusal("some words")


class Fields(unittest.TestCase):
    def test_no_flow_has_its_tie(self):
        for tie in (0, 5, 39, None):
            self.assertEqual(NoFlow(tie).tie, tie)
        self.assertIsNone(NoFlow(None).tie)

    def test_bad_text_and_bad_deed_have_their_row(self):
        for at in (1, 2, 77):
            self.assertEqual(BadText(at).at, at)
            self.assertEqual(BadDeed(at).at, at)

    def test_fields_want_one_thing(self):
        for refusal in (NoFlow, BadText, BadDeed):
            with self.assertRaises(TypeError):
                refusal()
            with self.assertRaises(TypeError):
                refusal(1, 2)

    def test_fields_last_through_copies(self):
        for make in (copy.copy, copy.deepcopy, lambda one: pickle.loads(pickle.dumps(one))):
            self.assertEqual(make(NoFlow(4)).tie, 4)
            self.assertEqual(make(BadText(2)).at, 2)
            self.assertEqual(make(BadDeed(3)).at, 3)


if __name__ == "__main__":
    unittest.main()
