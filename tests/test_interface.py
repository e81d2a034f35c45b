"""The interface's rows: where each name is defined, and how its parameters are called."""

import importlib
import inspect
import unittest

FUNCTIONS = {
    'forms': {'come': 'device', 'least': 'device'},
    'likeness': {'parting': 'device state other', 'alike': 'one other', 'shows_alike': 'one other value'},
    'records': {'asked': 'device walks', 'wrong': 'device tests', 'apart': 'tests one other'},
    'sortings': {'sortings': 'tests m', 'nth_sorting': 'tests m number', 'fits': 'tests m', 'shows_fits': 'tests m value'},
    'proving': {'proves': 'device tests m', 'shows_proves': 'device tests m value', 'fooled': 'device tests',
                'shows_fooled': 'device tests value', 'needless': 'device tests m'},
    'judging': {'judged': 'tests m walk', 'shows_judged': 'tests m walk value', 'first_open': 'device tests m',
                'rows_told': 'device tests', 'answers_sure': 'device tests m', 'rows_sure': 'device tests m'},
    'suites': {'ways': 'device', 'parters': 'device', 'suite': 'device more', 'price': 'tests reset'},
    'choosing': {'cheapest': 'device m menu reset', 'shows_cheapest': 'device m menu reset value',
                 'next_walk': 'tests m menu'},
    'changes': {'versions': 'device lot', 'changed': 'device lot tests', 'shows_changed': 'device lot tests value',
                'useful': 'device lot tests', 'cheapest_change': 'device lot menu reset'},
    'blaming': {'blamed': 'device tests many', 'mended': 'device tests lot', 'shows_mended': 'device tests lot value',
                'halving': 'device tests many menu'},
    'homing': {'homing': 'device', 'resetting': 'device', 'shows_resetting': 'device value'},
    'telling': {'telling': 'device', 'shows_telling': 'device value', 'which': 'devices', 'shows_which': 'devices value',
                'within': 'one other', 'shows_within': 'one other value'},
    'logs': {'now': 'device log', 'first': 'device log', 'torn': 'device log', 'expected': 'device log walk',
             'shows_expected': 'device log walk value', 'knowing': 'device log', 'left': 'devices log'},
    'tellings': {'wrongs': 'device tellings', 'nearest': 'devices tellings', 'voted': 'tellings',
                 'stands': 'device tellings lies', 'shows_stands': 'device tellings lies value'},
    'watches': {'safe': 'watch', 'verdict': 'watch log'},
    'keeping': {'kept': 'device watch', 'shows_kept': 'device watch value', 'always_kept': 'tests watch m',
                'shows_always_kept': 'tests watch m value'},
    'before': {'fits_before': 'part known wanted', 'shows_fits_before': 'part known wanted value',
               'widest_before': 'known wanted', 'shows_widest_before': 'known wanted value'},
    'behind': {'fits_behind': 'part known wanted', 'shows_fits_behind': 'part known wanted value',
               'widest_behind': 'known wanted', 'shows_widest_behind': 'known wanted value', 'led': 'known tests',
               'same_behind': 'known part other', 'shows_same_behind': 'known part other value',
               'proves_behind': 'known part tests m', 'shows_proves_behind': 'known part tests m value'},
    'journals': {'journal': 'bench', 'read_journal': 'text'},
}
METHODS = {
    ('devices', 'Device'): {
        '__init__': 'text', 'row': 'state call', 'heard': 'walk', 'behind': 'walk', 'begun': 'state',
        'turned': 'state call answer goal', '__len__': '', '__contains__': 'value', '__eq__': 'other'},
    ('records', 'Tests'): {
        '__init__': 'text', 'told': 'node', 'more': 'row', 'without': 'number', '__len__': '', '__contains__': 'value',
        '__eq__': 'other'},
    ('tellings', 'Tellings'): {'__init__': 'text', '__len__': '', '__eq__': 'other'},
    ('watches', 'Watch'): {
        '__init__': 'text', 'behind': 'log', '__len__': '', '__contains__': 'value', '__eq__': 'other'},
    ('benches', 'Bench'): {
        '__init__': 'text', 'tell': 'row', 'drop': 'number', 'limit': 'm', 'sure': 'walk', 'known': '', 'next': 'menu',
        'undo': '', 'redo': '', 'trial': '', 'keep': '', 'tried': 'look keep', 'copy': '', '__len__': '',
        '__contains__': 'value', '__eq__': 'other'},
    ('desk', 'Desk'): {'__init__': 'text', 'say': 'line'},
}
HEADS = 'calls a\nanswers x y'
ATTRIBUTES = {
    ('devices', 'Device'): (HEADS + '\nstates s\nrow s a x s', 'text calls answers states'),
    ('records', 'Tests'): (HEADS, 'text calls answers rows walks nodes'),
    ('tellings', 'Tellings'): (HEADS, 'text calls answers rows'),
    ('watches', 'Watch'): (HEADS + '\nmarks i', 'text calls answers marks'),
    ('benches', 'Bench'): (HEADS + '\nmost 2', 'calls answers tests most done'),
    ('desk', 'Desk'): (HEADS + '\nmost 2\ndeeds', 'bench'),
}


class TestInterface(unittest.TestCase):
    def test_functions(self):
        for name, functions in FUNCTIONS.items():
            module = importlib.import_module(f'toldboxes.{name}')
            for function, parameters in functions.items():
                found = getattr(module, function)
                self.assertEqual(found.__module__, module.__name__)
                self.assertEqual(' '.join(inspect.signature(found).parameters), parameters)

    def test_methods(self):
        for (name, kind), methods in METHODS.items():
            module = importlib.import_module(f'toldboxes.{name}')
            found = getattr(module, kind)
            self.assertEqual(found.__module__, module.__name__)
            for method, parameters in methods.items():
                self.assertIn(method, vars(found))
                self.assertEqual(' '.join(inspect.signature(vars(found)[method]).parameters), f'self {parameters}'.strip())

    def test_attributes(self):
        for (name, kind), (text, attributes) in ATTRIBUTES.items():
            made = getattr(importlib.import_module(f'toldboxes.{name}'), kind)(text)
            for attribute in attributes.split(' '):
                self.assertIn(attribute, vars(made))


if __name__ == '__main__':
    unittest.main()
