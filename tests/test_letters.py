"""Letters and the bodies that tell answers (point 55)."""

import unittest

from limitweave.books import Book
from limitweave.keeper import Answer, Keeper
from limitweave.letters import Letter, told_answer, told_body

VIEW = (2, ("a", "b"))
BODIES = (
    ("view",), ("ask", "k", "mail", 3), ("release", "k"), ("have", 4), ("again", "k"), ("released", "k"), ("full",),
    ("entries", 1, (("ask", "k", "mail", 3, 7), ("release", "k", 8)), 2), ("entries", 0, (), None),
    ("told", "k", 7, (), 7), ("told", "k", 7, ("few",), None),
)


class Letters(unittest.TestCase):
    def test_fields_and_parts(self):
        for number, body in enumerate(BODIES):
            for sender, receiver, view in (("", "a", None), ("", "b", VIEW), ("a", "b", VIEW), ("b", "", VIEW)):
                letter = Letter(number, sender, receiver, view, body)
                self.assertEqual(letter.number, number)
                self.assertEqual(letter.sender, sender)
                self.assertEqual(letter.receiver, receiver)
                self.assertEqual(letter.view, view)
                self.assertEqual(letter.body, body)
                self.assertEqual(letter.parts(), (number, sender, receiver, view, body))
                self.assertIsInstance(letter.parts(), tuple)


class Told(unittest.TestCase):
    def test_let_in_refused_and_refused_for_ever(self):
        keeper = Keeper(Book([("few", "window", (), (5, 10)), ("jobs", "held", ("mail",), (4,))]))
        for request, moment, parts in (
            (("a", "web", 5), 3, ("a", 3, (), 3)),
            (("b", "web", 1), 4, ("b", 4, ("few",), 13)),
            (("c", "mail", 5), 4, ("c", 4, ("few", "jobs"), None)),
        ):
            answer = keeper.ask(request, moment)
            self.assertEqual(told_body(answer), ("told",) + parts)
            self.assertEqual(answer.parts(), parts)

    def test_the_answer_of_a_body(self):
        for parts in (("a", 3, (), 3), ("b", 4, ("few",), 13), ("c", 4, ("few", "jobs"), None), ("d", 0, (), 0)):
            answer = told_answer(("told",) + parts)
            self.assertIsInstance(answer, Answer)
            self.assertEqual(answer.parts(), parts)
            self.assertEqual((answer.key, answer.moment, answer.lacking, answer.earliest), parts)
            self.assertIs(answer.is_let, parts[2] == ())
            self.assertEqual(told_body(answer), ("told",) + parts)


if __name__ == "__main__":
    unittest.main()
