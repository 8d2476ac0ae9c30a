"""The class Answer of limitweave/keeper.py, and point 16."""

import unittest

from limitweave.keeper import Answer
from limitweave.notation import format_answer


class Answers(unittest.TestCase):
    def test_fields_of_a_request_that_is_let_in(self):
        answer = Answer("job-1", 40, (), 40)
        self.assertEqual((answer.key, answer.moment, answer.lacking, answer.earliest), ("job-1", 40, (), 40))
        self.assertIs(answer.is_let, True)
        self.assertEqual(answer.parts(), ("job-1", 40, (), 40))

    def test_fields_of_a_request_that_is_refused(self):
        answer = Answer("job-1", 40, ("day", "hour"), None)
        self.assertEqual((answer.key, answer.moment, answer.lacking), ("job-1", 40, ("day", "hour")))
        self.assertIsNone(answer.earliest)
        self.assertIs(answer.is_let, False)
        self.assertEqual(answer.parts(), ("job-1", 40, ("day", "hour"), None))

    def test_written_forms(self):
        for parts, line in (
            (("job-1", 40, (), 40), "job-1 let 40"),
            (("a", 0, (), 0), "a let 0"),
            (("job-1", 40, ("day",), 47), "job-1 refused 40 47 day"),
            (("job-1", 40, ("day", "hour", "slow"), None), "job-1 refused 40 never day,hour,slow"),
            (("-", 1000000000, ("day", "hour"), 1000999999), "- refused 1000000000 1000999999 day,hour"),
        ):
            answer = Answer(*parts)
            self.assertEqual(format_answer(answer), line)
            self.assertEqual(answer.parts(), parts)
