"""The interface's rows: where each name is defined, and how its parameters are called."""

import importlib
import inspect
import unittest

FUNCTIONS = {
    'forms': {'come': 'device', 'least': 'device'},
    'likeness': {'parting': 'device state other', 'alike': 'one other', 'shows_alike': 'one other value'},
    'records': {'asked': 'device walks', 'wrong': 'device tests', 'apart': 'tests one other'},
    'sortings': {'sortings': 'tests m', 'nth_sorting': 'tests m number', 'fits': 'tests m', 'shows_fits': 'tests m value'},
    'proving': {'proves': 'device tests m', 'shows_proves': 'device tests m value', 'fooled': 'device tests',
                'shows_fooled': 'device tests value', 'needless': 'device tests m'},
    'judging': {'judged': 'tests m walk', 'shows_judged': 'tests m walk value', 'first_open': 'device tests m',
                'rows_told': 'device tests', 'answers_sure': 'device tests m', 'rows_sure': 'device tests m'},
    'suites': {'ways': 'device', 'parters': 'device', 'suite': 'device more', 'price': 'tests reset'},
    'choosing': {'cheapest': 'device m menu reset', 'shows_cheapest': 'device m menu reset value',
                 'next_walk': 'tests m menu'},
    'changes': {'versions': 'device lot', 'changed': 'device lot tests', 'shows_changed': 'device lot tests value',
                'useful': 'device lot tests', 'cheapest_change': 'device lot menu reset'},
    'blaming': {'blamed': 'device tests many', 'mended': 'device tests lot', 'shows_mended': 'device tests lot value',
                'halving': 'device tests many menu'},
    'homing': {'homing': 'device', 'resetting': 'device', 'shows_resetting': 'device value'},
    'telling': {'telling': 'device', 'shows_telling': 'device value', 'which': 'devices', 'shows_which': 'devices value',
                'within': 'one other', 'shows_within': 'one other value'},
    'logs': {'now': 'device log', 'first': 'device log', 'torn': 'device log', 'expected': 'device log walk',
             'shows_expected': 'device log walk value', 'knowing': 'device log', 'left': 'devices log'},
}
METHODS = {
    ('devices', 'Device'): {
        '__init__': 'text', 'row': 'state call', 'heard': 'walk', 'behind': 'walk', 'begun': 'state',
        'turned': 'state call answer goal', '__len__': '', '__contains__': 'value', '__eq__': 'other'},
    ('records', 'Tests'): {
        '__init__': 'text', 'told': 'node', 'more': 'row', 'without': 'number', '__len__': '', '__contains__': 'value',
        '__eq__': 'other'},
}


class TestInterface(unittest.TestCase):
    def test_functions(self):
        for name, functions in FUNCTIONS.items():
            module = importlib.import_module(f'toldboxes.{name}')
            for function, parameters in functions.items():
                found = getattr(module, function)
                self.assertEqual(found.__module__, module.__name__)
                self.assertEqual(' '.join(inspect.signature(found).parameters), parameters)

    def test_methods(self):
        for (name, kind), methods in METHODS.items():
            module = importlib.import_module(f'toldboxes.{name}')
            found = getattr(module, kind)
            self.assertEqual(found.__module__, module.__name__)
            for method, parameters in methods.items():
                self.assertIn(method, vars(found))
                self.assertEqual(' '.join(inspect.signature(vars(found)[method]).parameters), f'self {parameters}'.strip())


if __name__ == '__main__':
    unittest.main()
