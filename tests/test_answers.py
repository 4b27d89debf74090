import inspect
import unittest

from cutrow import answers, errors, parts, rows, texts
from cutrow.answers import Answer, Fewest, Great, Least, Most

FIELDS = {
    Fewest: {"cuts": [1], "stretches": [(0, 1)]},
    Great: {"place": 2},
    Least: {"cuts": [1], "number": 3, "stretches": [(0, 1), (1, 2)]},
    Most: {"cuts": [1], "places": [0, 1]},
}


class AnswerClasses(unittest.TestCase):
    def test_they_stand_straight_under_answer(self):
        for kind in FIELDS:
            self.assertEqual(kind.__bases__, (Answer,))
        self.assertEqual(Answer.__bases__, (object,))

    def test_they_bear_their_names(self):
        for name in ("Answer", "Fewest", "Great", "Least", "Most"):
            self.assertEqual(getattr(answers, name).__name__, name)

    def test_their_arguments_are_their_fields(self):
        for kind, fields in FIELDS.items():
            self.assertEqual(list(inspect.signature(kind).parameters), list(fields))
            for answer in (kind(*fields.values()), kind(**fields)):
                for name, value in fields.items():
                    self.assertEqual(getattr(answer, name), value)
                    self.assertIs(type(getattr(answer, name)), type(value))

    def test_fields_are_kept_as_told_whatever_they_hold(self):
        answer = Fewest([3, -1, 3], [(5, 2), (-1, 10 ** 40)])
        self.assertEqual((answer.cuts, answer.stretches), ([3, -1, 3], [(5, 2), (-1, 10 ** 40)]))
        self.assertEqual(Great(-7).place, -7)
        answer = Least([0], -4, [(1, 1)])
        self.assertEqual((answer.cuts, answer.number, answer.stretches), ([0], -4, [(1, 1)]))
        answer = Most([9, 9], [-2])
        self.assertEqual((answer.cuts, answer.places), ([9, 9], [-2]))


class ListsAreCopied(unittest.TestCase):
    def test_changing_what_an_answer_was_made_of(self):
        for kind, fields in FIELDS.items():
            given = {name: list(value) if isinstance(value, list) else value for name, value in fields.items()}
            answer = kind(**given)
            for value in given.values():
                if isinstance(value, list):
                    value.append(7)
                    value[0] = 5
            for name, value in fields.items():
                self.assertEqual(getattr(answer, name), value)

    def test_changing_an_answer(self):
        for kind, fields in FIELDS.items():
            given = {name: list(value) if isinstance(value, list) else value for name, value in fields.items()}
            answer, other = kind(**given), kind(**given)
            for name in fields:
                if isinstance(getattr(answer, name), list):
                    getattr(answer, name).clear()
            self.assertEqual(given, fields)
            for name, value in fields.items():
                self.assertEqual(getattr(other, name), value)

    def test_one_list_handed_in_twice(self):
        for make in (lambda xs: Fewest(xs, xs), lambda xs: Least(xs, 0, xs), lambda xs: Most(xs, xs)):
            answer = make([])
            answer.cuts.append(1)
            others = [value for name, value in vars(answer).items() if name != "cuts" and isinstance(value, list)]
            self.assertEqual(others, [[]])


class Interface(unittest.TestCase):
    def test_functions_and_their_arguments(self):
        told = {
            rows.borne: ["row", "cuts"], rows.halved: ["row"],
            parts.fewest: ["row", "bound"], parts.lowest: ["row", "count"], parts.fullest: ["row", "bound"],
            texts.written: ["row", "cuts"], texts.read: ["text"],
            Fewest.shows: ["self", "row", "bound"], Great.shows: ["self", "row", "bound"],
            Least.shows: ["self", "row", "count"], Most.shows: ["self", "row", "bound"],
        }
        for function, names in told.items():
            parameters = inspect.signature(function).parameters.values()
            self.assertEqual([parameter.name for parameter in parameters], names)
            self.assertTrue(all(parameter.default is parameter.empty for parameter in parameters), function)

    def test_every_name_lies_in_its_file(self):
        told = {
            errors: ["CutError", "BadRow", "BadNumber", "BadCuts", "BadText"], rows: ["borne", "halved"],
            answers: ["Answer", "Fewest", "Great", "Least", "Most"], parts: ["fewest", "lowest", "fullest"],
            texts: ["written", "read"],
        }
        for module, names in told.items():
            for name in names:
                self.assertEqual(getattr(module, name).__module__, module.__name__)


if __name__ == "__main__":
    unittest.main()
