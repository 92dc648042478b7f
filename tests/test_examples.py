"""Every example of the document, with the answer that is printed there."""

import importlib
import pathlib
import unittest

FOLDER = pathlib.Path(__file__).parent / "examples"
MODULES = (
    "errors", "base.polys", "func.functions", "func.places", "func.slopes", "line.tables", "oper.operators",
    "oper.division", "oper.common", "oper.changes", "made.rows", "made.sides", "turn.turns", "turn.norms", "turn.roots",
    "first.sources", "first.factors", "first.chains", "kin.leading", "kin.rings", "kin.systems", "line.fractions",
    "desk.desks", "text.texts",
)


def read_names():
    """All names of all modules."""
    names = {}
    for module in MODULES:
        names.update(vars(importlib.import_module(f"slopewords.{module}")))
    return names


def read_examples(stage):
    """The pairs of a line of code and of the lines printed below it."""
    found = []
    for line in (FOLDER / f"{stage}.txt").read_text().splitlines():
        if line.startswith(">>> "):
            found.append((line[4:], []))
        else:
            found[-1][1].append(line)
    return found


class ExamplesTest(unittest.TestCase):
    """Each line is carried out, and what it gives is compared with what is printed."""

    def check_stage(self, stage):
        names = read_names()
        for code, printed in read_examples("common") + read_examples(stage):
            with self.subTest(code=code):
                self.check_line(names, code, "\n".join(printed))

    def check_line(self, names, code, printed):
        if not printed:
            exec(code, names)
        elif printed.startswith("raises "):
            self.check_raised(names, code, printed[len("raises "):])
        else:
            self.assertEqual(repr(eval(code, names)), repr(eval(printed)))

    def check_raised(self, names, code, raised):
        with self.assertRaises(names[raised.partition("(")[0]]) as caught:
            eval(code, names)
        if "(" in raised:
            self.assertEqual(vars(caught.exception), vars(eval(raised, names)))

    def test_counts(self):
        for stage in range(1, 23):
            self.assertGreaterEqual(len(read_examples(f"stage_{stage:02}")), 4)

    def test_stage_1(self):
        self.check_stage("stage_01")

    def test_stage_2(self):
        self.check_stage("stage_02")

    def test_stage_3(self):
        self.check_stage("stage_03")

    def test_stage_4(self):
        self.check_stage("stage_04")

    def test_stage_5(self):
        self.check_stage("stage_05")

    def test_stage_6(self):
        self.check_stage("stage_06")

    def test_stage_7(self):
        self.check_stage("stage_07")

    def test_stage_8(self):
        self.check_stage("stage_08")

    def test_stage_9(self):
        self.check_stage("stage_09")

    def test_stage_10(self):
        self.check_stage("stage_10")

    def test_stage_11(self):
        self.check_stage("stage_11")

    def test_stage_12(self):
        self.check_stage("stage_12")

    def test_stage_13(self):
        self.check_stage("stage_13")

    def test_stage_14(self):
        self.check_stage("stage_14")

    def test_stage_15(self):
        self.check_stage("stage_15")

    def test_stage_16(self):
        self.check_stage("stage_16")

    def test_stage_17(self):
        self.check_stage("stage_17")

    def test_stage_18(self):
        self.check_stage("stage_18")

    def test_stage_19(self):
        self.check_stage("stage_19")

    def test_stage_20(self):
        self.check_stage("stage_20")

    def test_stage_21(self):
        self.check_stage("stage_21")

    def test_stage_22(self):
        self.check_stage("stage_22")


if __name__ == "__main__":
    unittest.main()
