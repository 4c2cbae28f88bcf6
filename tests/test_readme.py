import doctest
import pathlib
import unittest

README = pathlib.Path(__file__).resolve().parent.parent / "README.md"


class ReadmeTest(unittest.TestCase):
    def test_the_session_is_right(self):
        text = README.read_text(encoding="utf-8")
        session = text.split("```")[1]
        test = doctest.DocTestParser().get_doctest(session, {}, "README", str(README), 0)
        self.assertGreater(len(test.examples), 5)
        self.assertEqual(doctest.DocTestRunner().run(test).failed, 0)
