"""The examples of the document, as they stand in it."""

import doctest
import unittest

from callsheard.errors import BadText
from callsheard.formtext import parse_form

EXAMPLES = [
    """
>>> from callsheard.house import House
>>> from callsheard.hearing import hear
>>> house = House.corridor(3)
>>> log = [(0, 'bell'), (2, 'horn'), (1, 'drum')]
>>> hear(house, log, [(0, 1)])
['drum', 'drum', 'horn']
""",
    """
>>> from callsheard.house import House
>>> from callsheard.alike import parting_path
>>> first = [(1, 'drum'), (0, 'bell'), (2, 'horn')]
>>> second = [(1, 'drum'), (2, 'horn'), (0, 'bell')]
>>> parting_path(House.corridor(3), first, second)
(0, 1, 2)
""",
    """
>>> from callsheard.house import House
>>> from callsheard.forms import form_of
>>> form_of(House.corridor(3), [(0, 'bell'), (2, 'horn'), (1, 'drum')])
(('drum', (1,), (('bell', (0,), ()), ('horn', (2,), ()))),)
""",
    """
>>> from callsheard.formtext import format_form, parse_form
>>> format_form(parse_form('drum[1](bell[0] -[2])'))
'drum[1](bell[0] -[2])'
""",
    """
>>> from callsheard.house import House
>>> from callsheard.forms import form_of
>>> from callsheard.exchanges import nearest_order
>>> house = House.corridor(3)
>>> form = form_of(house, [(2, 'horn'), (0, 'bell'), (1, 'bell')])
>>> nearest_order(house, form, (1, 2, 0))
(1, (2, 1, 0))
""",
    """
>>> from callsheard.facts import Facts, fitting_answer
>>> facts = Facts(['bell', 'horn', 'bell'], [(0, 1)], [((0, 1), 'bell'), ((1, 2), 'horn')])
>>> fitting_answer(facts)
('stuck', (0, 1, 2), (('pair', 1), ('heard', 0), ('heard', 1)))
""",
    """
>>> from callsheard.house import House
>>> from callsheard.forms import form_of
>>> from callsheard.pins import near_miss, pins
>>> house = House.corridor(3)
>>> form = form_of(house, [(0, 'bell'), (2, 'horn'), (1, 'drum')])
>>> (pins(house, form), near_miss(house, form, 1))
([(1, (0, 1, 2))], (2, 1, 0))
""",
    """
>>> from callsheard.house import House
>>> from callsheard.looks import looks_answer
>>> log = [(0, 'bell'), (2, 'drum'), (1, 'horn')]
>>> looks_answer(House.corridor(3), log, [(3, ['bell', 'drum', 'drum'])])
('clash', (1, 2), 0, 1)
""",
    """
>>> from callsheard.house import House
>>> from callsheard.looks import door_states
>>> log = [(0, 'bell'), (2, 'drum'), (1, 'horn')]
>>> door_states(House.corridor(3), log, [(3, ['bell', 'horn', 'horn'])])
['shut', 'open']
""",
    """
>>> from callsheard.house import House
>>> from callsheard.openings import count_openings
>>> count_openings(House.corridor(3), [], [], opened=[(0, 1)])
2
""",
    """
>>> from callsheard.house import House
>>> from callsheard.weaves import Joint
>>> joint = Joint(House.corridor(2), [(0, 'bell'), (1, 'horn')], House(1, []), [(0, 'bell')], (1, 0))
>>> (joint.pattern_count(), joint.weave_at(1))
(2, 'baa')
""",
    """
>>> from callsheard.corridors import corridor_count
>>> corridor_count(5, 2)
394
""",
    """
>>> from callsheard.house import House
>>> from callsheard.formtext import parse_form
>>> from callsheard.further import further_calls
>>> from callsheard.strikes import strikes
>>> house = House.corridor(2)
>>> log = [(0, 'bell'), (1, 'horn'), (0, 'bell')]
>>> form = parse_form('horn[1](bell[0])')
>>> (further_calls(house, log, form), strikes(house, log, form))
([(1, 'horn')], [2])
""",
    r"""
>>> from callsheard.runner import run
>>> text = 'house 3 0-1 1-2\ncall 0 bell\ncall 2 horn\ncall 1 drum\nform\nlook bell drum drum\ndoors'
>>> run(text)
['form drum[1](bell[0] horn[2])', 'doors 0-1:shut 1-2:open']
""",
]


class ExamplesTest(unittest.TestCase):
    def test_examples(self):
        for number, text in enumerate(EXAMPLES):
            test = doctest.DocTestParser().get_doctest(text, {}, f"example {number}", None, 0)
            shown = []
            results = doctest.DocTestRunner(verbose=False).run(test, out=shown.append)
            self.assertEqual(results.failed, 0, "".join(shown))
            self.assertGreater(results.attempted, 0)

    def test_example_that_raises(self):
        with self.assertRaises(BadText) as caught:
            parse_form('bell[0] ')
        self.assertEqual(caught.exception.place, 8)
