"""That the package has the interface's names where they belong, and keeps to the plainest rules of its language."""

import ast
import inspect
import os
import re
import unittest
import warnings

from flywright import desk, errors, machines, plans, safety, sheets, show, stage, stagetext, steps

FOLDER = os.path.dirname(os.path.abspath(errors.__file__))
METHODS = ["__init__", "kind", "lane", "wide", "offset", "boxes", "taken", "words"]
COMMON = ["self", "name", "least", "greatest", "pace", "gain", "place"]
ARGUMENTS = {
    machines.Machine: COMMON,
    machines.Line: COMMON + ["lane", "at", "wide", "tall"],
    machines.Wagon: COMMON + ["lane", "wide", "tall"],
    machines.Trap: COMMON + ["lane", "at", "wide"],
    machines.Floor: COMMON + ["lane", "walls"],
}
BARRED = re.compile(
    r"\b(type|typing|typing_extensions|enum|Enum|IntEnum|StrEnum|Flag|IntFlag|Generic|Protocol|ABC|ABCMeta|namedtuple"
    r"|NamedTuple|TypedDict|TYPE_CHECKING|abstractmethod)\b|dataclass|overload|contextmanager"
)


def arguments(made):
    return list(inspect.signature(made).parameters)


def sources():
    """The text of each file of the package, by its name."""
    texts = {}
    for name in sorted(os.listdir(FOLDER)):
        if name != "__pycache__":
            with open(os.path.join(FOLDER, name), encoding="utf-8") as file:
                texts[name] = file.read()
    return texts


class InterfaceTest(unittest.TestCase):
    def test_functions_of_steps(self):
        wanted = {
            "is_whole": ["thing", "least", "most"], "steps_of": ["distance", "pace", "gain"],
            "reach": ["many", "pace", "gain"], "braked": ["step", "gain"],
        }
        for name in wanted:
            self.assertEqual(wanted[name], arguments(getattr(steps, name)))
            self.assertEqual("flywright.steps", getattr(steps, name).__module__)

    def test_arguments_of_machines(self):
        for kind in ARGUMENTS:
            self.assertEqual("flywright.machines", kind.__module__)
            self.assertEqual(ARGUMENTS[kind], arguments(kind.__init__))
            self.assertEqual(["self", "place"], arguments(kind.boxes))
            self.assertEqual(["self", "ahead", "place"], arguments(kind.taken))

    def test_methods_stand_in_each_class_itself(self):
        for kind in ARGUMENTS:
            for name in METHODS:
                self.assertIn(name, vars(kind), kind)

    def test_functions_of_texts(self):
        for module, name, wanted in [(stagetext, "stage_text", ["stage"]), (stagetext, "read_stage", ["text"]),
                                     (sheets, "read_sheet", ["text"])]:
            self.assertEqual(wanted, arguments(getattr(module, name)))
            self.assertEqual(module.__name__, getattr(module, name).__module__)

    def test_methods_of_stage(self):
        self.need_methods(stage, stage.Stage, {
            "__init__": ["room", "rings", "machines"], "rings": [], "machines": [], "machine": ["name"],
            "is_near": ["one", "other", "place", "goal"], "first_near": ["places", "ahead"],
        })
        self.assertIsNone(inspect.signature(stage.Stage.first_near).parameters["ahead"].default)

    def test_methods_of_sheet(self):
        self.need_methods(sheets, sheets.Sheet, {
            "__init__": ["cues"], "cues": [], "names": [], "moves": ["name"], "followers": ["name"],
            "fits": ["stage"], "text": [],
        })

    def test_methods_of_ways(self):
        common = {"end": [], "at": ["tick"], "step_of": ["place", "tick"]}
        self.need_methods(plans, plans.Way, {"__init__": ["stage"], **common})
        self.need_methods(plans, plans.Back, {"__init__": ["stage", "book"], **common})
        self.need_methods(plans, plans.Ways, {
            "__init__": ["stage", "places"], **common, "adds": ["sheet", "cue", "tick"], "shown": [],
            "goes_on": ["tick"],
        })

    def test_methods_of_show(self):
        self.need_methods(show, show.Show, {
            "__init__": ["stage", "sheet"], "clock": [], "go": [], "press": ["cue"], "stop": [], "go_on": [], "back": [],
            "places": [], "is_still": [], "book": [],
        })

    def test_functions_of_safety_and_desk(self):
        for module, name, wanted in [(safety, "need_free", ["way", "now"]), (safety, "stopped", ["way", "tick"]),
                                     (desk, "answered", ["show", "line"]), (desk, "played", ["stage", "sheet", "lines"])]:
            self.assertEqual(wanted, arguments(getattr(module, name)))
            self.assertEqual(module.__name__, getattr(module, name).__module__)
        self.assertEqual(0, inspect.signature(safety.need_free).parameters["now"].default)

    def need_methods(self, module, kind, wanted):
        self.assertEqual(module.__name__, kind.__module__)
        for name in wanted:
            self.assertEqual(["self"] + wanted[name], arguments(vars(kind)[name]))


class LanguageTest(unittest.TestCase):
    def test_files(self):
        for name in sources():
            self.assertRegex(name, r"^([a-z][a-z0-9_]*|__init__)\.py$")

    def test_size(self):
        for name, text in sources().items():
            self.assertLessEqual(len(text.split("\n")), 400, name)
            for node in ast.walk(ast.parse(text)):
                if isinstance(node, ast.FunctionDef):
                    self.assertLessEqual(node.end_lineno - node.lineno + 1, 40, (name, node.name))
            for line in text.split("\n"):
                self.assertLessEqual(len(line), 120, (name, line))

    def test_characters_and_words(self):
        for name, text in sources().items():
            self.assertRegex(text, r"\A[ -~\n]*\Z", name)
            self.assertIsNone(BARRED.search(text), name)

    def test_no_warnings(self):
        for name, text in sources().items():
            with warnings.catch_warnings():
                warnings.simplefilter("error")
                compile(text, name, "exec")

    def test_imports_name_the_file_that_defines(self):
        for name, text in sources().items():
            for node in ast.walk(ast.parse(text)):
                self.assertNotIsInstance(node, ast.Import, name)
                if isinstance(node, ast.ImportFrom):
                    self.need_defined(node)

    def need_defined(self, node):
        self.assertEqual("flywright.", node.module[:10])
        tree = ast.parse(sources()[node.module[10:] + ".py"])
        defined = [row.name for row in tree.body if isinstance(row, (ast.FunctionDef, ast.ClassDef))]
        defined += [row.targets[0].id for row in tree.body if isinstance(row, ast.Assign)]
        for alias in node.names:
            self.assertIn(alias.name, defined)

    def test_no_name_is_a_method_here_and_an_attribute_there(self):
        methods, attributes = [], []
        for text in sources().values():
            for node in ast.walk(ast.parse(text)):
                if isinstance(node, ast.ClassDef):
                    methods += [row.name for row in node.body if isinstance(row, ast.FunctionDef)]
                if isinstance(node, ast.Attribute) and isinstance(node.ctx, ast.Store):
                    attributes.append(node.attr)
        self.assertEqual(set(), set(methods) & set(attributes))


if __name__ == "__main__":
    unittest.main()
