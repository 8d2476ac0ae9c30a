"""Drawn walks of a weave with harm (points 62 to 70), against a weave that is written once more."""

import random
import unittest

from definition import keeps
from drawing import draw_book
from limitweave.replays import deeds_of
from limitweave.weave import Weave
from weaves import Model, all_of, all_of_model, draw_deed, faults_in


class Walks(unittest.TestCase):
    def begin(self, draw, many=None):
        book = draw_book(draw, 3)
        houses = draw.sample("pqrst", many or draw.randint(1, 5))
        return Weave(book, houses), Model(book, houses)

    def step(self, draw, weave, model, harm=1.0):
        """Do a drawn deed with both, and return its name."""
        deed, given, named = draw_deed(draw, model, harm)
        found = getattr(weave, deed)(*given, **named)
        self.assertEqual(found, getattr(model, deed)(*given, **named), (deed, given, named))
        return deed

    def walk(self, seed, steps, many=None):
        """A weave and its model behind a drawn walk, with points 67 and 68 behind each deed."""
        draw = random.Random(f"walk {seed}")
        weave, model = self.begin(draw, many)
        told, harm = {}, draw.choice((0.1, 0.3, 0.8))
        for _ in range(steps):
            deed = self.step(draw, weave, model, harm)
            self.assertEqual(all_of(weave), all_of_model(model), (seed, deed))
            self.assertEqual(faults_in(model), [], (seed, deed))
            now = {key: answer.parts() for key, answer in weave.told().items()}
            self.assertEqual({key: now[key] for key in told}, told)
            told = now
        return draw, weave, model

    def test_walks_with_one_to_five_houses(self):
        for many in range(1, 6):
            for turn in range(8):
                self.walk(f"{many} {turn}", 120, many)

    def test_walks_that_settle(self):
        rows = 0
        for seed in range(40):
            draw, weave, model = self.walk(f"settles {seed}", draw_steps(seed))
            for house in weave.present_view()[1]:
                # Those that were cleared are left out. At least one other house is full all the time.
                if weave.journal_text(house) == "":
                    weave.leave_out(house)
                    model.leave_out(house)
                weave.rise(house)
                model.rise(house)
            told = {key: answer.parts() for key, answer in weave.told().items()}
            self.assertIsNone(weave.settle())
            model.settle()
            self.assertEqual(all_of(weave), all_of_model(model))
            self.assertEqual(faults_in(model), [])
            self.check_settled(weave)
            now = {key: answer.parts() for key, answer in weave.told().items()}
            self.assertEqual({key: now[key] for key in told}, told)
            rows += len(weave.row_of(weave.present_view()[1][0]))
        self.assertGreater(rows, 100)

    def check_settled(self, weave):
        """Point 70, and the answers by the definitions."""
        view = weave.present_view()
        row = weave.row_of(view[1][0])
        for house in view[1]:
            self.assertEqual((weave.view_of(house), weave.row_of(house)), (view, row))
            self.assertLessEqual(weave.due_of(house), len(row))
        self.assertEqual(weave.full_houses(), list(view[1]))
        self.assertEqual((weave.untold(), weave.untold_releases(), weave.letters()), ([], [], []))
        self.assertEqual(sorted(weave.told()), sorted(entry[1] for entry in row if entry[0] == "ask"))
        let = {}
        deeds = []
        for entry in row:
            if entry[0] == "release":
                deeds += [entry] if let[entry[1]] else []
                continue
            answer = weave.told()[entry[1]]
            deed = ("let",) + entry[1:]
            broken = [limit[0] for limit in weave.book.limits if not keeps(limit, deeds + [deed])]
            self.assertEqual((answer.moment, list(answer.lacking)), (entry[4], broken))
            let[entry[1]] = answer.is_let
            deeds += [deed] if answer.is_let else []
        self.assertEqual(sorted(weave.released()), sorted(deed[1] for deed in deeds if deed[0] == "release"))
        self.assertEqual(deeds, deeds_of(weave.book, row))

    def test_one_house_that_is_left_alone_tells_all_that_was_told(self):
        answers = 0
        for seed in range(30):
            draw, weave, model = self.walk(f"alone {seed}", 150)
            told = {key: answer.parts() for key, answer in weave.told().items()}
            released = weave.released()
            house = draw.choice(weave.full_houses())
            for other in weave.present_view()[1]:
                if other != house:
                    weave.leave_out(other)
            self.assertEqual(weave.present_view()[1], (house,))
            for other in weave.houses():
                weave.fall(other)
            for letter in weave.letters():
                weave.lose(letter.number)
            weave.rise(house)
            weave.announce()
            weave.deliver(weave.letters()[0].number)
            for key in sorted(told):
                group, cost = model.asked[key]
                weave.deliver(weave.ask(key, group, cost))
            bodies = [letter.body for letter in weave.letters()]
            self.assertEqual([body[1:] for body in bodies if body[0] == "told"], [told[key] for key in sorted(told)])
            self.assertLessEqual(set(released), {body[1] for body in bodies if body[0] == "released"})
            answers += len(told)
        self.assertGreater(answers, 40)

    def test_harmless_walks(self):
        for seed in range(15):
            draw = random.Random(f"harmless {seed}")
            weave, model = self.begin(draw)
            for _ in range(80):
                self.step(draw, weave, model, 0.0)
            weave.settle()
            model.settle()
            self.assertEqual(all_of(weave), all_of_model(model))
            self.check_settled(weave)

    def test_settling_with_houses_that_have_fallen_or_were_cleared(self):
        for seed in range(30):
            draw, weave, model = self.walk(f"fallen {seed}", 60)
            weave.settle()
            model.settle()
            self.assertEqual(all_of(weave), all_of_model(model))
            self.assertEqual(faults_in(model), [])
            self.assertEqual(weave.letters(), [])

    def test_two_weaves_do_not_touch_each_other(self):
        for seed in range(10):
            draws = [random.Random(f"two {seed} {turn}") for turn in range(2)]
            pairs = [self.begin(draw) for draw in draws]
            for _ in range(80):
                for draw, (weave, model) in zip(draws, pairs):
                    self.step(draw, weave, model)
                for weave, model in pairs:
                    self.assertEqual(all_of(weave), all_of_model(model))


def draw_steps(seed):
    return (20, 60, 150)[seed % 3]


if __name__ == "__main__":
    unittest.main()
