"""How tests ask for an error and the value that is told."""

from looks import same
from toldboxes.errors import BoxError


class Raising:
    """Beside unittest.TestCase."""

    def assert_tells(self, error, value, call, *arguments, **named):
        """That this very error is raised, with just this value."""
        with self.assertRaises(BoxError) as caught:
            call(*arguments, **named)
        self.assertIs(type(caught.exception), error)
        told = caught.exception.value
        self.assertTrue(told is value or same(told, value), f'{told!r} is not {value!r}')
