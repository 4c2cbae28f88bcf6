import doctest
import pathlib
import unittest

README = pathlib.Path(__file__).resolve().parent.parent / "README.md"


OVERVIEW = """
>>> from halfread.codes import Code
>>> from halfread.readings import mixes, off
>>> from halfread.bridges import Bridge
>>> from halfread.verdicts import verdict
>>> from halfread.speeds import least_depth
>>> plain = Code((0, 0), (0, 1), (1, 0), (1, 1))
>>> mixes(plain, 1)
((0, 0), (0, 1), (1, 0), (1, 1))
>>> off(plain, 1), off(Code((0, 0), (0, 1), (1, 1), (1, 0)), 1)
(1, 0)
>>> verdict(Bridge(plain, 1, 1, 1))[0], verdict(Bridge(plain, 1, 1, 1, 2))[0]
('safe', 'broken')
"""


class ReadmeTest(unittest.TestCase):
    def test_the_session_of_the_overview(self):
        test = doctest.DocTestParser().get_doctest(OVERVIEW, {}, "overview", None, 0)
        self.assertEqual(len(test.examples), 9)
        self.assertEqual(doctest.DocTestRunner().run(test).failed, 0)

    def test_the_session_is_right(self):
        text = README.read_text(encoding="utf-8")
        session = text.split("```")[1]
        test = doctest.DocTestParser().get_doctest(session, {}, "README", str(README), 0)
        self.assertGreater(len(test.examples), 5)
        self.assertEqual(doctest.DocTestRunner().run(test).failed, 0)
