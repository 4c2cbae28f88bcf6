import unittest

from halfread import errors

PLAIN_ERRORS = (
    "NoWords", "NoCode", "NoValue", "NoWord", "NoOrder", "NoPlaces", "NoText", "NoSpan", "NoNumber", "NoBridge",
    "NoState", "NoBeat", "NoLap", "NoLook", "NothingDone", "TooMuch",
)


class ErrorsTest(unittest.TestCase):
    def test_read_error_is_directly_a_value_error(self):
        self.assertEqual(errors.ReadError.__bases__, (ValueError,))
        self.assertIsInstance(errors.ReadError(), ValueError)
        self.assertEqual(str(errors.ReadError("a message")), "a message")

    def test_all_are_directly_read_errors_of_this_file(self):
        for name in PLAIN_ERRORS + ("TooMany", "Broken"):
            with self.subTest(name):
                error = getattr(errors, name)
                self.assertEqual(error.__bases__, (errors.ReadError,))
                self.assertEqual(error.__module__, "halfread.errors")
                self.assertEqual(error.__name__, name)

    def test_plain_errors_are_made_with_a_message_or_none(self):
        for name in PLAIN_ERRORS:
            with self.subTest(name):
                error = getattr(errors, name)
                self.assertEqual(str(error("why")), "why")
                self.assertEqual(str(error()), "")
                with self.assertRaises(errors.ReadError):
                    raise error("why")

    def test_too_many_has_its_limit(self):
        self.assertEqual(errors.TooMany(3000).limit, 3000)
        self.assertEqual(errors.TooMany(limit=7).limit, 7)
        with self.assertRaises(TypeError):
            errors.TooMany()

    def test_broken_has_its_kind(self):
        self.assertEqual(errors.Broken("full").kind, "full")
        self.assertEqual(errors.Broken(kind="empty").kind, "empty")
        with self.assertRaises(TypeError):
            errors.Broken()
