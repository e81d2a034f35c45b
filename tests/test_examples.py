"""The document's examples, as they stand there.

Section 4:

>>> from toldboxes.devices import Device
>>> lamp = Device('calls a b\\nanswers x y\\nstates p q\\nrow p a x q\\nrow p b y p\\nrow q a y p\\nrow q b y q')
>>> [lamp.row('q', 'a'), lamp.heard(('a', 'b', 'a', 'a')), lamp.behind(('a', 'b')), lamp.begun('q').heard(('a',)), len(lamp), 'p' in lamp]
[('y', 'p'), ('x', 'y', 'y', 'x'), 'q', ('y',), 2, True]
>>> lamp.turned('q', 'b', 'x', 'p').text.split('\\n')[2:]
['states p q', 'row p a x q', 'row p b y p', 'row q a y p', 'row q b x p']

Section 5:

>>> from toldboxes.forms import come, least
>>> from toldboxes.likeness import alike, parting, shows_alike
>>> three = Device('calls a b\\nanswers x y\\nstates u v w\\nrow u a x v\\nrow u b y w\\nrow v a y w\\nrow v b y v\\nrow w a x v\\nrow w b y u')
>>> [come(three), least(three).text.split('\\n')[2:], parting(lamp, 'p', 'q'), parting(three, 'u', 'w')]
[('u', 'v', 'w'), ['states s0 s1', 'row s0 a x s1', 'row s0 b y s0', 'row s1 a y s0', 'row s1 b y s1'], ('a',), None]
>>> [alike(lamp, three), alike(lamp, lamp.turned('q', 'a', 'y', 'q')), shows_alike(lamp, lamp.begun('q'), ('apart', ('a',)))]
[('alike', (('p', 'u'), ('p', 'w'), ('q', 'v'))), ('apart', ('a', 'a', 'a')), True]

Section 6:

>>> from toldboxes.records import Tests, apart, asked, wrong
>>> few = Tests('calls a b\\nanswers x y\\ntest a x a y\\ntest b y a x')
>>> [few.nodes, few.told(('b', 'a')), apart(few, (), ('a',)), apart(few, (), ('b',)), asked(lamp, (('a', 'a'), ('b', 'a'))) == few, wrong(lamp.begun('q'), few)]
[((), ('a',), ('b',), ('a', 'a'), ('b', 'a')), ('y', 'x'), ('a',), None, True, (0, 1)]

Section 7:

>>> from toldboxes.sortings import fits, nth_sorting, shows_fits, sortings
>>> [sortings(few, 1), sortings(few, 2), nth_sorting(few, 2, 1), sortings(few, 3), fits(few, 2)[0], fits(few, 1)[0]]
[0, 2, (0, 1, 0, 1, 1), 12, 'device', 'none']
>>> [shows_fits(few, 1, ('none', ('cases', ('a',), (('torn', (), ('a',), ('a',)),)))), shows_fits(few, 2, ('device', lamp.begun('q').text))]
[True, False]

Section 9:

>>> from toldboxes.proving import fooled, needless, proves, shows_fooled, shows_proves
>>> enough = asked(lamp, (('b', 'a'), ('a', 'a', 'a'), ('a', 'b', 'a')))
>>> [proves(lamp, enough, 2)[0], proves(lamp, few, 2)[0], needless(lamp, enough, 2), fooled(lamp, few)[:2], fooled(lamp, enough)[:2]]
['proved', 'passes', (), ('fooled', 2), ('fooled', 3)]
>>> paper = ('cases', ('a', 'b'), (('torn', (), ('a', 'b'), ('a',)), ('alike', ('p', 'q'))))
>>> paper = ('cases', ('a', 'a'), (paper, ('torn', ('a',), ('a', 'a'), ('a',))))
>>> paper = ('cases', ('b',), (paper, ('torn', ('a',), ('b',), ('a',))))
>>> paper = ('cases', ('a',), (('torn', (), ('a',), ('a',)), paper))
>>> [shows_proves(lamp, enough, 2, ('proved', paper)), shows_proves(lamp, few, 2, ('proved', paper)), shows_proves(lamp, few, 2, ('passes', lamp.turned('q', 'a', 'y', 'q').text, ('a', 'a', 'a')))]
[True, False, True]
"""

import doctest
import sys
import unittest


def load_tests(loader, tests, pattern):
    tests.addTests(doctest.DocTestSuite(sys.modules[__name__]))
    return tests


if __name__ == '__main__':
    unittest.main()
