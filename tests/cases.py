"""What several tests look for."""

import unittest


def parts_of(thing):
    """All lists and dicts of the thing."""
    if isinstance(thing, dict):
        return [thing] + [part for worth in thing.values() for part in parts_of(worth)]
    if isinstance(thing, (list, tuple)):
        found = [part for worth in thing for part in parts_of(worth)]
        return [thing] + found if isinstance(thing, list) else found
    return []


class OwnCase(unittest.TestCase):
    def assertOwn(self, told, *handed):
        """No list or dict that is told is one that was handed in, nor told twice."""
        own = [id(part) for part in parts_of(told)]
        self.assertEqual(len(own), len(set(own)))
        self.assertFalse(set(own) & {id(part) for thing in handed for part in parts_of(thing)})
