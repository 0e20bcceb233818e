"""The examples of the document, as they stand in it."""

import doctest
import unittest

from callsheard.errors import BadText
from callsheard.formtext import parse_form

EXAMPLES = [
    """
>>> from callsheard.house import House
>>> from callsheard.hearing import hear
>>> house = House.corridor(3)
>>> log = [(0, 'bell'), (2, 'horn'), (1, 'drum')]
>>> hear(house, log, [(0, 1)])
['drum', 'drum', 'horn']
""",
    """
>>> from callsheard.house import House
>>> from callsheard.alike import parting_path
>>> first = [(1, 'drum'), (0, 'bell'), (2, 'horn')]
>>> second = [(1, 'drum'), (2, 'horn'), (0, 'bell')]
>>> parting_path(House.corridor(3), first, second)
(0, 1, 2)
""",
    """
>>> from callsheard.house import House
>>> from callsheard.forms import form_of
>>> form_of(House.corridor(3), [(0, 'bell'), (2, 'horn'), (1, 'drum')])
(('drum', (1,), (('bell', (0,), ()), ('horn', (2,), ()))),)
""",
    """
>>> from callsheard.formtext import format_form, parse_form
>>> format_form(parse_form('drum[1](bell[0] -[2])'))
'drum[1](bell[0] -[2])'
""",
]


class ExamplesTest(unittest.TestCase):
    def test_examples(self):
        for number, text in enumerate(EXAMPLES):
            test = doctest.DocTestParser().get_doctest(text, {}, f"example {number}", None, 0)
            shown = []
            results = doctest.DocTestRunner(verbose=False).run(test, out=shown.append)
            self.assertEqual(results.failed, 0, "".join(shown))
            self.assertGreater(results.attempted, 0)

    def test_example_that_raises(self):
        with self.assertRaises(BadText) as caught:
            parse_form('bell[0] ')
        self.assertEqual(caught.exception.place, 8)
