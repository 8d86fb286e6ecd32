"""The interface: what DOC.md lists stands where it lists it, with the arguments told there."""

import ast
import unittest
from pathlib import Path

from halfpace import books, duos, hands, matches, partings

PACKAGE = Path(__file__).resolve().parent.parent / "halfpace"

FUNCTIONS = {
    "kinds.py": {"is_whole": ["thing"], "is_beat": ["thing"], "is_name": ["thing"], "is_pace": ["thing"]},
    "figures.py": {
        "figures_of": ["number", "pace"],
        "number_of": ["figures", "pace"],
        "blocks": ["first", "last", "pace"],
    },
    "choirs.py": {
        "is_standing": ["choir", "thing"],
        "beside": ["one", "other"],
        "renamed": ["choir", "names"],
        "renoted": ["choir", "notes"],
    },
    "roads.py": {
        "elder_of": ["song", "beat", "name"],
        "road": ["song", "beat", "name"],
        "road_table": ["song", "beat", "name"],
        "tie": ["song", "one", "other"],
    },
    "chords.py": {"is_chord": ["choir", "thing"], "has": ["choir", "standing", "chord"]},
    "hits.py": {
        "hits": ["song", "chord", "upto"],
        "hit": ["song", "chord", "number"],
        "first_hit": ["song", "chord", "start"],
        "all_hits": ["song", "chord"],
        "turn_of": ["song", "chord"],
        "is_turn": ["song", "chord", "thing"],
        "ladder": ["song", "chord", "start"],
        "is_ladder": ["song", "chord", "start", "thing"],
    },
    "waits.py": {
        "waits": ["choir", "root"],
        "are_waits": ["choir", "root", "thing"],
        "wait_for": ["choir", "root", "start", "chord"],
    },
    "ears.py": {"is_ear": ["choir", "thing"]},
    "matches.py": {
        "healing": ["song", "ear", "beat", "name", "note", "*most=MOST"],
        "is_idle": ["song", "ear", "beat", "*most=MOST"],
        "canon": ["song", "ear", "later_ear", "lag", "*most=MOST"],
    },
    "hands.py": {
        "told_apart": ["one", "other", "hands", "*most=MOST"],
        "are_pairs": ["one", "other", "hands", "thing"],
        "is_parting": ["one", "other", "hands", "thing"],
    },
    "partings.py": {
        "partings": ["one", "other", "hands", "*most=MOST"],
        "are_partings": ["one", "other", "hands", "thing", "*most=MOST"],
    },
    "hearsay.py": {
        "left": ["song", "heard"],
        "agree_many": ["song", "heard"],
        "agreeing": ["song", "heard", "number"],
        "bar": ["song", "heard"],
        "is_bar": ["song", "heard", "thing"],
    },
    "texts.py": {
        "show_choir": ["choir"],
        "show_song": ["song"],
        "read_choir": ["thing"],
        "read_song": ["thing"],
    },
    "wishes.py": {
        "soonest": ["choir", "root", "wait", "chord", "hands", "most_hands"],
        "soonest_row": ["choir", "root", "wait", "chord", "hands", "most_hands"],
        "prices": ["choir", "chord", "hands", "most_hands"],
        "are_prices": ["choir", "chord", "hands", "most_hands", "thing"],
    },
}

CLASSES = {
    "errors.py": [
        "SongError", "Wrong", "BadVoice", "BadCue", "Unlike", "Taken", "TooGreat", "TooMany", "There", "NoCue", "Full",
        "NoRoot", "NoNumber", "NoText", "Nothing", "Stopped",
    ],
    "choirs.py": ["Choir"],
    "songs.py": ["Song"],
    "ears.py": ["Run"],
    "duos.py": ["Duo"],
    "matches.py": ["Match"],
    "books.py": ["Book"],
}

# The methods that a class has in its own body; what stands behind a * is handed in by its name.
METHODS = {
    ("choirs.py", "Choir"): {
        "__init__": ["pace", "notes", "voices"],
        "__eq__": ["other"],
        "__len__": [],
        "pace": [],
        "notes": [],
        "names": [],
        "elder": ["name", "rest"],
        "table": ["name", "rest"],
        "voices": [],
        "led": ["standing", "rest"],
        "behind": ["standing", "wait"],
        "hangs": ["names"],
        "only": ["names"],
        "seen": ["standing", "names"],
    },
    ("songs.py", "Song"): {
        "__init__": ["choir", "first", "*cues=()", "*breaths=()"],
        "__eq__": ["other"],
        "choir": [],
        "first": [],
        "cues": [],
        "breaths": [],
        "roots": [],
        "standing": ["beat"],
        "note": ["beat", "name"],
        "with_cue": ["beat", "name", "note"],
        "without": ["beat", "name"],
        "with_breath": ["beat"],
        "without_breath": ["beat"],
        "from_root": ["beat"],
    },
    ("ears.py", "Run"): {
        "__init__": ["choir", "root", "ear"],
        "choir": [],
        "root": [],
        "ear": [],
        "sounds": ["wait"],
    },
    ("duos.py", "Duo"): {
        "__init__": ["one", "other", "*lag=0", "*most=MOST"],
        "lag": [],
        "triples": ["level"],
        "is_unlike": ["wait"],
        "many": ["upto"],
        "unlike": ["number"],
        "first": ["start"],
        "last": [],
        "is_again": ["lead", "turn", "tail"],
        "ladder": ["start"],
        "is_ladder": ["start", "thing"],
    },
    ("matches.py", "Match"): {
        "__init__": ["one", "ear", "other", "other_ear", "*lag=0", "*most=MOST"],
        "is_unlike": ["beat"],
        "many": ["upto"],
        "unlike": ["number"],
        "first": ["start"],
        "last": [],
    },
    ("books.py", "Book"): {
        "__init__": ["song"],
        "put": ["beat", "name", "note"],
        "take": ["beat", "name"],
        "breathe": ["beat"],
        "flow": ["beat"],
        "move": ["beat", "name", "later"],
        "back": [],
        "again": [],
        "song": [],
        "deeds": [],
        "tried": ["deeds"],
        "heals": ["deed", "ear", "*most=MOST"],
        "copied": [],
    },
}


def body_of(file):
    return ast.parse((PACKAGE / file).read_text(encoding="utf-8")).body


def arguments_of(function):
    by_name = zip(function.args.kwonlyargs, function.args.kw_defaults)
    return [arg.arg for arg in function.args.args] + [f"*{arg.arg}={ast.unparse(worth)}" for arg, worth in by_name]


def functions_of(body):
    return {row.name: arguments_of(row) for row in body if isinstance(row, ast.FunctionDef)}


class Interface(unittest.TestCase):
    def test_functions_are_defined_in_their_files(self):
        for file, functions in FUNCTIONS.items():
            defined = functions_of(body_of(file))
            for name, arguments in functions.items():
                self.assertEqual(defined.get(name), arguments, (file, name))

    def test_classes_are_defined_in_their_files(self):
        for file, names in CLASSES.items():
            defined = [row.name for row in body_of(file) if isinstance(row, ast.ClassDef)]
            for name in names:
                self.assertIn(name, defined, file)

    def test_most_is_400(self):
        for module in (books, duos, hands, matches, partings):
            self.assertEqual(module.MOST, 400)

    def test_methods_stand_in_their_classes(self):
        for (file, name), methods in METHODS.items():
            body = next(row.body for row in body_of(file) if isinstance(row, ast.ClassDef) and row.name == name)
            defined = functions_of(body)
            for method, arguments in methods.items():
                self.assertEqual(defined.get(method), ["self"] + arguments, (file, name, method))


class Files(unittest.TestCase):
    """What the rules of the language say of files, lines and functions, as far as it is quickly seen."""

    def files(self):
        return sorted(PACKAGE.rglob("*.py"))

    def test_the_folder_holds_plain_files_alone(self):
        self.assertIn(PACKAGE / "__init__.py", self.files())
        for path in PACKAGE.rglob("*"):
            if "__pycache__" not in path.parts:
                self.assertTrue(path.is_dir() or path.suffix == ".py", path)

    def test_lines_and_files_are_short_and_plain(self):
        for path in self.files():
            text = path.read_text(encoding="utf-8")
            self.assertTrue(all(sign == "\n" or " " <= sign <= "~" for sign in text), path)
            self.assertLessEqual(len(text.splitlines()), 399, path)
            self.assertLessEqual(max(map(len, text.splitlines()), default=0), 120, path)

    def test_functions_are_short(self):
        for path in self.files():
            for row in ast.walk(ast.parse(path.read_text(encoding="utf-8"))):
                if isinstance(row, ast.FunctionDef):
                    self.assertLessEqual(row.end_lineno - row.lineno + 1, 40, (path, row.name))
