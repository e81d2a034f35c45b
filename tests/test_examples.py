"""The document's examples, as they stand there.

Section 4:

>>> from toldboxes.devices import Device
>>> lamp = Device('calls a b\\nanswers x y\\nstates p q\\nrow p a x q\\nrow p b y p\\nrow q a y p\\nrow q b y q')
>>> [lamp.row('q', 'a'), lamp.heard(('a', 'b', 'a', 'a')), lamp.behind(('a', 'b')), lamp.begun('q').heard(('a',)), len(lamp), 'p' in lamp]
[('y', 'p'), ('x', 'y', 'y', 'x'), 'q', ('y',), 2, True]
>>> lamp.turned('q', 'b', 'x', 'p').text.split('\\n')[2:]
['states p q', 'row p a x q', 'row p b y p', 'row q a y p', 'row q b x p']

Section 5:

>>> from toldboxes.forms import come, least
>>> from toldboxes.likeness import alike, parting, shows_alike
>>> three = Device('calls a b\\nanswers x y\\nstates u v w\\nrow u a x v\\nrow u b y w\\nrow v a y w\\nrow v b y v\\nrow w a x v\\nrow w b y u')
>>> [come(three), least(three).text.split('\\n')[2:], parting(lamp, 'p', 'q'), parting(three, 'u', 'w')]
[('u', 'v', 'w'), ['states s0 s1', 'row s0 a x s1', 'row s0 b y s0', 'row s1 a y s0', 'row s1 b y s1'], ('a',), None]
>>> [alike(lamp, three), alike(lamp, lamp.turned('q', 'a', 'y', 'q')), shows_alike(lamp, lamp.begun('q'), ('apart', ('a',)))]
[('alike', (('p', 'u'), ('p', 'w'), ('q', 'v'))), ('apart', ('a', 'a', 'a')), True]

Section 6:

>>> from toldboxes.records import Tests, apart, asked, wrong
>>> few = Tests('calls a b\\nanswers x y\\ntest a x a y\\ntest b y a x')
>>> [few.nodes, few.told(('b', 'a')), apart(few, (), ('a',)), apart(few, (), ('b',)), asked(lamp, (('a', 'a'), ('b', 'a'))) == few, wrong(lamp.begun('q'), few)]
[((), ('a',), ('b',), ('a', 'a'), ('b', 'a')), ('y', 'x'), ('a',), None, True, (0, 1)]

Section 7:

>>> from toldboxes.sortings import fits, nth_sorting, shows_fits, sortings
>>> [sortings(few, 1), sortings(few, 2), nth_sorting(few, 2, 1), sortings(few, 3), fits(few, 2)[0], fits(few, 1)[0]]
[0, 2, (0, 1, 0, 1, 1), 12, 'device', 'none']
>>> [shows_fits(few, 1, ('none', ('cases', ('a',), (('torn', (), ('a',), ('a',)),)))), shows_fits(few, 2, ('device', lamp.begun('q').text))]
[True, False]

Section 9:

>>> from toldboxes.proving import fooled, needless, proves, shows_fooled, shows_proves
>>> enough = asked(lamp, (('b', 'a'), ('a', 'a', 'a'), ('a', 'b', 'a')))
>>> [proves(lamp, enough, 2)[0], proves(lamp, few, 2)[0], needless(lamp, enough, 2), fooled(lamp, few)[:2], fooled(lamp, enough)[:2]]
['proved', 'passes', (), ('fooled', 2), ('fooled', 3)]
>>> paper = ('cases', ('a', 'b'), (('torn', (), ('a', 'b'), ('a',)), ('alike', ('p', 'q'))))
>>> paper = ('cases', ('a', 'a'), (paper, ('torn', ('a',), ('a', 'a'), ('a',))))
>>> paper = ('cases', ('b',), (paper, ('torn', ('a',), ('b',), ('a',))))
>>> paper = ('cases', ('a',), (('torn', (), ('a',), ('a',)), paper))
>>> [shows_proves(lamp, enough, 2, ('proved', paper)), shows_proves(lamp, few, 2, ('proved', paper)), shows_proves(lamp, few, 2, ('passes', lamp.turned('q', 'a', 'y', 'q').text, ('a', 'a', 'a')))]
[True, False, True]

Section 10:

>>> from toldboxes.judging import answers_sure, first_open, judged, rows_sure, rows_told
>>> [judged(few, 2, ('a', 'b'))[0], judged(few, 2, ('b', 'a', 'a'))[:2], judged(few, 1, ())[0], first_open(lamp, few, 2), first_open(lamp, enough, 2)]
['open', ('always', ('y', 'x', 'y')), 'none', ('a', 'b'), None]
>>> [rows_told(lamp, few), answers_sure(lamp, few, 2), rows_sure(lamp, few, 2), len(rows_sure(lamp, enough, 2))]
[(('p', 'a'), ('p', 'b'), ('q', 'a')), (('p', 'a'), ('p', 'b'), ('q', 'a')), (), 4]

Section 11:

>>> from toldboxes.suites import parters, price, suite, ways
>>> [ways(lamp), parters(lamp), suite(lamp, 0) == asked(lamp, (('b', 'a'), ('a', 'a', 'a'), ('a', 'b', 'a'))), len(suite(lamp, 1)), price(enough, 10)]
[((), ('a',)), (('a',),), True, 6, 38]
>>> [ways(three), proves(lamp, suite(lamp, 0), 2)[0], proves(lamp, suite(lamp, 0), 3)[0], proves(lamp, suite(lamp, 1), 3)[0]]
[((), ('a',)), 'proved', 'passes', 'proved']

Section 12:

>>> from toldboxes.choosing import cheapest, next_walk, shows_cheapest
>>> menu = (('b', 'a'), ('a', 'a', 'a'), ('a', 'b', 'a'), ('b', 'a', 'a', 'a', 'b', 'a'))
>>> [cheapest(lamp, 2, menu, 2)[:3], len(cheapest(lamp, 2, menu, 2)[3]), cheapest(lamp, 2, menu[:2], 2)[0], next_walk(few, 2, (('a', 'b'), ('b', 'b')))]
[('choice', 8, (3,)), 4, 'passes', (1, 2)]

Section 13:

>>> from toldboxes.changes import changed, cheapest_change, shows_changed, useful, versions
>>> lot = (('q', 'a'),)
>>> [versions(lamp, lot), changed(lamp, lot, few)[0], changed(lamp, lot, asked(lamp, (('a', 'a', 'a'),))), useful(lamp, lot, few), cheapest_change(lamp, lot, menu, 2)]
[3, 'passes', ('proved',), (0,), ('choice', 5, (1,))]

Section 14:

>>> from toldboxes.blaming import blamed, halving, mended, shows_mended
>>> seen = Tests('calls a b\\nanswers x y\\ntest a x a y a y')
>>> [blamed(lamp, few, 1), blamed(lamp, seen, 1), blamed(lamp, seen, 2) == blamed(lamp, seen, 1), mended(lamp, seen, (('q', 'a'),))[0], mended(lamp, seen, (('q', 'b'),))]
[((),), ((('q', 'a'),),), True, 'device', ('none',)]
>>> [shows_mended(lamp, seen, (('q', 'a'),), ('device', lamp.turned('q', 'a', 'y', 'q').text)), halving(lamp, seen, 1, (('b',), ('a', 'a', 'b')))]
[True, (0, 1)]

Section 15:

>>> from toldboxes.homing import homing, resetting, shows_resetting
>>> ring = Device('calls a b\\nanswers x y\\nstates r s t\\nrow r a x s\\nrow s a x t\\nrow t a y r\\nrow r b x r\\nrow s b x r\\nrow t b x t')
>>> [homing(lamp), resetting(lamp), homing(ring), resetting(ring), shows_resetting(lamp, ('never', (('p', 'q'),)))]
[('a',), ('never', (('p', 'q'),)), ('a', 'a'), ('walk', ('b', 'a', 'b')), True]

Section 16:

>>> from toldboxes.telling import shows_telling, shows_which, shows_within, telling, which, within
>>> other = lamp.turned('p', 'a', 'y', 'q').turned('p', 'b', 'x', 'p')
>>> [telling(lamp), which((lamp, lamp.begun('q'))), within(lamp, other), within(lamp, lamp.begun('q'))[0], shows_within(lamp, lamp.begun('q'), ('ring', (), ('b',)))]
[('tree', ('a', (('x', 'p'), ('y', 'q')))), ('tree', ('a', (('x', 0), ('y', 1)))), ('within', 1), 'ring', True]
>>> telling(ring)
('tree', ('a', (('x', ('a', (('x', 'r'), ('y', 's')))), ('y', 't'))))
>>> [which((lamp, lamp))[0], shows_which((lamp, lamp), ('never', (((0, 'p'), (1, 'p')), ((0, 'q'), (1, 'q')))))]
['never', True]

Section 17:

>>> from toldboxes.logs import expected, first, knowing, left, now, shows_expected, torn
>>> page = (('a', 'x'), ('b', 'x'))
>>> [now(ring, page), first(ring, page), torn(ring, page + (('a', 'y'), ('a', 'y'))), torn(ring, page), expected(ring, page, ('b',)), expected(ring, page, ('a',))[0]]
[('r', 't'), ('r', 's'), 3, None, ('always', ('x',)), 'open']
>>> [knowing(ring, page), knowing(ring, ()), knowing(ring, (('a', 'y'),)), left((lamp, other), (('b', 'y'),)), expected(lamp, (('a', 'x'), ('a', 'x')), ())]
[('a',), ('a', 'a'), (), (0, 1), ('torn', 1)]

Section 18:

>>> from toldboxes.tellings import Tellings, nearest, shows_stands, stands, voted, wrongs
>>> said = Tellings('calls a b\\nanswers x y\\ntold a x a y\\ntold a x a x\\ntold a x a y\\ntold b y')
>>> [wrongs(lamp, said), nearest((other, lamp), said), stands(lamp, said, 0), stands(lamp, said, 1)[0], voted(said)]
[1, (1, 1), ('wrong', 1), 'falls', ('tests', 'calls a b\\nanswers x y\\ntest b y\\ntest a x a y')]
>>> voted(Tellings('calls a b\\nanswers x y\\ntold a x a y\\ntold a x a x'))
('even', ('a', 'a'))

Sections 19 and 20:

>>> from toldboxes.keeping import always_kept, kept, shows_always_kept, shows_kept
>>> from toldboxes.watches import Watch, safe, verdict
>>> watch = Watch('calls a b\\nanswers x y\\nmarks idle on\\nstep idle a x on\\nstep idle a y broken\\nstep on a y idle\\nstep on a x broken')
>>> [watch.behind((('a', 'x'), ('b', 'y'))), safe(watch), verdict(watch, ()), verdict(watch, (('a', 'y'),)), kept(lamp, watch), kept(lamp.turned('q', 'a', 'y', 'q'), watch)]
['on', (), 'held', 'broken', ('kept', (('p', 'idle'), ('q', 'on'))), ('broken', ('a', 'a', 'a'))]
>>> [always_kept(enough, watch, 2)[0], always_kept(few, watch, 1)[0], shows_always_kept(few, watch, 2, ('broken', (0, 1, 0, 0, 1), (('a', 'x'), ('b', 'y'), ('a', 'x'))))]
['kept', 'none', True]

Section 21:

>>> from toldboxes.before import fits_before, shows_fits_before, shows_widest_before, widest_before
>>> plain = Device('calls a b\\nanswers a b\\nstates o\\nrow o a a o\\nrow o b b o')
>>> steady = Device('calls a b\\nanswers x y\\nstates i\\nrow i a x i\\nrow i b y i')
>>> [fits_before(plain, lamp, lamp), fits_before(plain, lamp, steady), widest_before(lamp, lamp)[1][0], widest_before(lamp, steady)[0]]
[('fits', (('o', 'p', 'p'), ('o', 'q', 'q'))), ('apart', ('a', 'a')), (('p', 'p'), 'a', ('a',)), 'never']
>>> shows_widest_before(lamp, steady, ('never', ((('q', 'i'), 'a'), (('p', 'i'), 'a'))))
True

Section 22:

>>> from toldboxes.behind import fits_behind, led, proves_behind, same_behind, shows_proves_behind, shows_widest_behind, widest_behind
>>> turn = Device('calls x y\\nanswers x y\\nstates o\\nrow o x y o\\nrow o y x o')
>>> back = Device('calls a b\\nanswers x y\\nstates p q\\nrow p a y q\\nrow p b x p\\nrow q a x p\\nrow q b x q')
>>> [fits_behind(turn, lamp, back), widest_behind(lamp, back)[1][:2], widest_behind(steady, lamp)[0], widest_behind(lamp, steady)[0], shows_widest_behind(lamp, steady, ('never', ('a', 'a'), ('a', 'b')))]
[('fits', (('o', 'p', 'p'), ('o', 'q', 'q'))), (((('p', 'p'),), 'x', 'y'), ((('p', 'p'),), 'y', 'x')), 'widest', 'never', True]
>>> whole = Tests('calls a b\\nanswers x y\\ntest a y a x\\ntest b x')
>>> [led(lamp, whole).rows, proves_behind(lamp, turn, whole, 1)[0], proves_behind(lamp, turn, whole, 2)[0]]
[((('x', 'y'), ('y', 'x')), (('y', 'x'),)), 'proved', 'passes']

Section 23:

>>> from toldboxes.benches import Bench
>>> bench = Bench('calls a b\\nanswers x y\\nmost 2')
>>> [bench.tell(row) for row in suite(lamp, 0).rows]
[None, None, None]
>>> [bench.sure(('a', 'a', 'b', 'a')), bench.known()[:2] == ('device', least(lamp).text), bench.limit(3), bench.sure(('a', 'a', 'b')), bench.undo(), len(bench), ('a', 'b') in bench, bench.done]
[('x', 'y', 'y', 'x'), True, None, None, None, 3, True, 3]

Section 24:

>>> from toldboxes.desk import Desk
>>> from toldboxes.journals import journal, read_journal
>>> desk = Desk('calls a b\\nanswers x y\\nmost 2\\ndeeds\\ntell b y a x')
>>> [desk.say(line) for line in ('tell a x a y a x', 'sure b b a', 'sure a b', 'known', 'tell a x b y a y', 'known', 'drop 1', 'undo', 'tests')]
['done', 'y y x', 'open', 'no', 'done', 'yes', 'done', 'done', '3']
>>> [journal(desk.bench).split('\\n')[4:], read_journal(journal(desk.bench)) == desk.bench]
[['tell b y a x', 'tell a x a y a x', 'tell a x b y a y'], True]
"""

import doctest
import sys
import unittest


def load_tests(loader, tests, pattern):
    tests.addTests(doctest.DocTestSuite(sys.modules[__name__]))
    return tests


if __name__ == '__main__':
    unittest.main()
