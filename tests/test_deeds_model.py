"""Long rows of deeds beside a model that keeps a dict of paths (8)."""

import random
import unittest

from helper import EMPTY, some_deed
from snapshelf.deeds import done
from snapshelf.errors import ShelfError
from snapshelf.things import is_view, paths_of, thing_at


def below(model, path):
    """How many things stand straight in the folder at the path."""
    return [one for one in model if len(one) == len(path) + 1 and one[:len(path)] == path]


def within(model, path):
    """The paths of the thing at the path and of what is in it."""
    return [one for one in model if one[:len(path)] == path]


def why_not(model, deed):
    """The name of what the deed is refused with, or None; folders are None in the model, files lists."""
    word, path = deed[:2]
    home = deed[-1] if word in ("move", "copy") else path
    homeless = len(home) > 1 and (home[:-1] not in model or model[home[:-1]] is not None)
    if word in ("put", "trim"):
        if model.get(path) is None:
            return "NoThing"
        many = len(model[path])
        return "NoLeaf" if deed[2] > many or (word == "put" and deed[2] == 64) else None
    if word == "out":
        return None if path in model else "NoThing"
    if homeless or (word in ("move", "copy") and path not in model):
        return "NoThing"
    if word == "move" and home[:len(path)] == path:
        return "Within"
    if home in model:
        return "Taken"
    if len([one for one in below(model, home[:-1]) if word != "move" or one != path]) == 8:
        return "TooMany"
    if word in ("move", "copy") and max(len(one) for one in within(model, path)) - len(path) + len(home) > 6:
        return "TooDeep"
    return None


def change(model, deed):
    """Do a deed that isn't refused."""
    word, path = deed[:2]
    if word == "put":
        model[path][deed[2]:deed[2] + 1] = [deed[3]]
    elif word == "trim":
        del model[path][deed[2]:]
    elif word in ("folder", "file"):
        model[path] = None if word == "folder" else []
    else:
        moved = {one[len(path):]: model[one] for one in within(model, path)}
        if word != "copy":
            for rest in moved:
                del model[path + rest]
        if word != "out":
            for rest, leaves in moved.items():
                model[deed[2] + rest] = None if leaves is None else list(leaves)


class ModelTest(unittest.TestCase):

    def check_alike(self, view, model):
        self.assertEqual(sorted(paths_of(view)), sorted(model))
        for path, leaves in model.items():
            thing = thing_at(view, path)
            self.assertEqual(thing[0], "folder" if leaves is None else "file")
            if leaves is not None:
                self.assertEqual(thing[1], tuple(leaves))

    def test_beside_the_model(self):
        seen = set()
        for seed in range(8):
            source = random.Random(seed)
            view, model = EMPTY, {}
            for turn in range(1500):
                if len(model) > 120:
                    view, model = EMPTY, {}
                deed = some_deed(source, model)
                why = why_not(model, deed)
                seen.add((deed[0], why))
                if why is None:
                    view = done(view, deed)
                    change(model, deed)
                    self.assertTrue(is_view(view))
                    self.check_alike(view, model)
                else:
                    with self.assertRaises(ShelfError) as caught:
                        done(view, deed)
                    self.assertEqual(caught.exception.__class__.__name__, why, (view, deed))
        for word in ("folder", "file", "put", "trim", "out", "move", "copy"):
            self.assertIn((word, None), seen)
        for why in ("NoThing", "Within", "Taken", "TooMany", "TooDeep"):
            self.assertIn(("move", why), seen)


if __name__ == "__main__":
    unittest.main()
