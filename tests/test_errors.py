"""The interface of ladderreach/errors.py."""

from ladderreach import errors
from tests.helpers import Case

BASES = {
    "LadderreachError": "ValueError",
    "BadHeight": "LadderreachError",
    "BadSize": "LadderreachError",
    "TooLarge": "LadderreachError",
    "HeightMismatch": "LadderreachError",
    "ShapeMismatch": "LadderreachError",
    "GameError": "LadderreachError",
    "BadOwners": "GameError",
    "BadEdge": "GameError",
    "DuplicateEdge": "GameError",
    "DeadEnd": "GameError",
    "NoSuchEdge": "GameError",
    "BadLevel": "LadderreachError",
    "OutOfRange": "LadderreachError",
    "NoSuchNode": "OutOfRange",
    "NoSuchStep": "OutOfRange",
    "NoSuchRank": "OutOfRange",
    "NoSuchLevel": "OutOfRange",
    "NoSuchState": "OutOfRange",
    "NoSuchLetter": "OutOfRange",
    "BadPlan": "LadderreachError",
    "BadPlacement": "LadderreachError",
    "Misfit": "LadderreachError",
    "BadMove": "LadderreachError",
    "BadLine": "LadderreachError",
    "DeskError": "LadderreachError",
    "NothingToUndo": "DeskError",
    "NothingToRedo": "DeskError",
    "ScriptError": "DeskError",
    "UnknownLimit": "LadderreachError",
}

ATTRIBUTES = {
    "BadEdge": {"index": 4},
    "DuplicateEdge": {"index": 5},
    "DeadEnd": {"node": 6},
    "BadLevel": {"index": 7},
    "NoSuchNode": {"node": -8},
    "NoSuchStep": {"step": 9},
    "NoSuchRank": {"rank": 10},
    "NoSuchLevel": {"level": 11},
    "NoSuchState": {"state": 12},
    "NoSuchLetter": {"letter": 13},
    "BadPlan": {"node": 14},
    "BadPlacement": {"node": 15},
    "Misfit": {"node": 16},
    "BadMove": {"state": 17},
    "BadLine": {"number": 18},
    "ScriptError": {"number": 19, "name": "DeadEnd"},
    "UnknownLimit": {"name": "owners"},
}


class ErrorsTest(Case):
    def test_bases(self):
        for name, base in BASES.items():
            self.assertEqual([each.__name__ for each in getattr(errors, name).__bases__], [base])

    def test_attributes(self):
        for name, values in ATTRIBUTES.items():
            error = getattr(errors, name)(*values.values())
            for attribute, value in values.items():
                self.assertEqual(getattr(error, attribute), value)

    def test_caught_as_value_error(self):
        for name in BASES:
            with self.assertRaises(ValueError):
                raise getattr(errors, name)(*ATTRIBUTES.get(name, {"why": "why"}).values())
