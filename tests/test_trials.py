"""Points 146 and 147: trials."""

import unittest

from dicewins.cups import Cup
from dicewins.desks import Desk
from dicewins.errors import BadDie, BadNumber, DiceError, NothingBack, TrialEnded
from dicewins.trials import Trial, tried
from dicewins.weighing import Mix
from helping import NO_ROWS, DiceTest, chooser_of
from test_desks import RING, deed_done, some_cup, some_deed


def state_of(desk):
    """What a desk holds now and behind each of its marks."""
    cups = [desk.cup_now.dice]
    other = Trial(desk)
    other.begin()
    while desk.done:
        cups.append(desk.back().dice)
    other.finish()
    return cups


class TrialTest(DiceTest):
    def test_attributes(self):
        desk = Desk(RING)
        trial = Trial(desk)
        self.assertIs(trial.desk, desk)
        self.assertIs(trial.ended, False)
        self.assertIs(trial.begin(), desk)
        self.assertIs(trial.ended, False)
        self.assertIsNone(trial.finish())
        self.assertIs(trial.ended, True)
        self.assertIs(trial.desk, desk)

    def test_nothing_is_left(self):
        chooser = chooser_of(651)
        for _ in range(60):
            desk = Desk(some_cup(chooser))
            for _ in range(4):
                deed_done(desk, *some_deed(chooser, desk.cup_now))
            before = state_of(desk)
            with Trial(desk) as held:
                self.assertIs(held, desk)
                # deeds from before the trial may be taken back in it
                for _ in range(chooser.randint(0, 4)):
                    desk.back()
                for _ in range(chooser.randint(0, 4)):
                    deed_done(desk, *some_deed(chooser, desk.cup_now))
                desk.mark = chooser.randint(0, desk.done)
            self.same(state_of(desk), before)
            self.same(desk.done, 4)

    def test_inside_one_another(self):
        desk = Desk(RING)
        desk.turn_round()
        before = state_of(desk)
        with Trial(desk):
            desk.back()
            desk.drop(0)
            inner = state_of(desk)
            with Trial(desk) as held:
                held.back()
                with Trial(held):
                    held.scale((2, 2, 2))
                    held.throw_many(2)
                self.same(state_of(desk), [Cup(RING).dice])
            self.same(state_of(desk), inner)
            desk.drop(1)
            self.same(desk.done, 2)
        self.same(state_of(desk), before)

    def test_errors_end_it(self):
        desk = Desk(RING)
        desk.turn_round()
        before = state_of(desk)
        trial = Trial(desk)
        with self.assertRaises(BadDie) as caught:
            with trial as held:
                held.back()
                held.put([0] * 9)
        self.same(caught.exception.place, -1)
        self.assertIs(trial.ended, True)
        self.same(state_of(desk), before)
        with self.assertRaises(KeyError):
            with Trial(desk):
                desk.drop(0)
                raise KeyError("x")
        with self.assertRaises(KeyError):
            with Trial(desk):
                desk.drop(0)
                with Trial(desk):
                    desk.drop(0)
                    raise KeyError("y")
        self.same(state_of(desk), before)

    def test_begun_once(self):
        desk = Desk(RING)
        trial = Trial(desk)
        trial.begin()
        desk.turn_round()
        self.fails(TrialEnded, {}, trial.begin)
        self.fails(TrialEnded, {}, trial.__enter__)
        self.same(desk.done, 1)
        trial.finish()
        self.same(desk.done, 0)
        self.fails(TrialEnded, {}, trial.begin)
        # finished once more it changes nothing
        desk.turn_round()
        self.assertIsNone(trial.finish())
        self.same([desk.done, trial.ended], [1, True])
        with self.assertRaises(TrialEnded):
            with trial:
                desk.turn_round()
        self.same(desk.done, 1)

    def test_finished_before_it_began(self):
        desk = Desk(RING)
        trial = Trial(desk)
        desk.turn_round()
        self.assertIsNone(trial.finish())
        self.same([trial.ended, desk.done], [True, 1])
        self.fails(TrialEnded, {}, trial.begin)

    def test_deeds_between_the_finishes(self):
        chooser = chooser_of(653)
        for _ in range(40):
            desk = Desk(some_cup(chooser))
            deed_done(desk, *some_deed(chooser, desk.cup_now))
            before = state_of(desk)
            trial = Trial(desk)
            trial.begin()
            for _ in range(chooser.randint(0, 3)):
                deed_done(desk, *some_deed(chooser, desk.cup_now))
            trial.finish()
            self.same(state_of(desk), before)
            for _ in range(3):
                if desk.done and chooser.randint(0, 1):
                    desk.back()
                else:
                    deed_done(desk, *some_deed(chooser, desk.cup_now))
                after = state_of(desk)
                self.assertIsNone(trial.finish())
                self.same([state_of(desk), trial.ended], [after, True])

    def test_never_begun(self):
        desk = Desk(RING)
        desk.turn_round()
        trial = Trial(desk)
        for _ in range(3):
            self.assertIsNone(trial.finish())
            desk.turn_round()
            self.fails(TrialEnded, {}, trial.begin)
            self.fails(TrialEnded, {}, trial.__enter__)
        self.same([desk.done, trial.ended], [4, True])

    def test_begun_again_behind_its_end(self):
        desk = Desk(RING)
        trial = Trial(desk)
        with trial:
            desk.turn_round()
        self.same([desk.done, trial.ended], [0, True])
        desk.drop(0)
        for _ in range(3):
            # a wrong beginning is none: nothing is taken back behind it
            self.fails(TrialEnded, {}, trial.begin)
            desk.turn_round()
            trial.finish()
        self.same([desk.done, trial.ended], [4, True])

    def test_begun_again_before_its_end(self):
        desk = Desk(RING)
        desk.turn_round()
        before = state_of(desk)
        trial = Trial(desk)
        with trial:
            desk.drop(0)
            # the desk goes back to the first beginning
            self.fails(TrialEnded, {}, trial.begin)
            self.same([desk.done, trial.ended], [2, False])
        self.same([state_of(desk), trial.ended], [before, True])

    def test_finished_in_its_block(self):
        desk = Desk(RING)
        trial = Trial(desk)
        with trial:
            desk.turn_round()
            trial.finish()
            self.same([desk.done, trial.ended], [0, True])
            desk.drop(0)
            desk.drop(0)
        self.same([desk.done, trial.ended], [2, True])

    def test_inner_trials_finished_again(self):
        desk = Desk(RING)
        desk.turn_round()
        before = state_of(desk)
        outer, inner, other = Trial(desk), Trial(desk), Trial(desk)
        with outer:
            desk.turn_round()
            with inner:
                desk.drop(0)
                other.finish()
                self.same(desk.done, 3)
            desk.drop(1)
            after = state_of(desk)
            inner.finish()
            self.fails(TrialEnded, {}, inner.begin)
            self.fails(TrialEnded, {}, other.begin)
            self.same([state_of(desk), outer.ended], [after, False])
        self.same(state_of(desk), before)
        self.same([outer.ended, inner.ended, other.ended], [True, True, True])
        desk.back()
        for trial in (outer, inner, other):
            trial.finish()
        self.same(desk.done, 0)

    def test_any_error_is_passed_on(self):
        for error in (ValueError, StopIteration, TrialEnded, NothingBack, KeyboardInterrupt, GeneratorExit):
            desk = Desk(RING)
            desk.turn_round()
            trials = [Trial(desk), Trial(desk)]
            raised = error()
            with self.assertRaises(error) as caught:
                with trials[0]:
                    desk.back()
                    with trials[1]:
                        desk.drop(0)
                        raise raised
            self.assertIs(caught.exception, raised)
            self.same([desk.done, desk.cup_now.dice], [1, (~Cup(RING)).dice])
            self.same([trial.ended for trial in trials], [True, True])
            self.assertFalse(Trial(desk).__exit__(error, raised, None))

    def test_error_out_of_an_ended_trial(self):
        desk = Desk(RING)
        trial = Trial(desk)
        with self.assertRaises(KeyError):
            with trial:
                trial.finish()
                desk.turn_round()
                raise KeyError("z")
        self.same([desk.done, trial.ended], [1, True])

    def test_left_by_a_return(self):
        desk = Desk(RING)

        def left():
            with Trial(desk) as held:
                return held.drop(0)

        self.same([left(), desk.done], [{"dice": 2}, 0])

    def test_against_a_row_of_cups(self):
        chooser = chooser_of(654)
        for _ in range(60):
            desk = Desk(some_cup(chooser))
            # the cups that the desk should hold, and those at the beginning of each trial that goes on
            cups, open_trials, ended = [desk.cup_now.dice], [], []
            for _ in range(25):
                step = chooser.randrange(6)
                if step == 0:
                    trial = Trial(desk)
                    self.assertIs(trial.begin(), desk)
                    open_trials.append((trial, list(cups)))
                elif step == 1 and open_trials:
                    trial, cups = open_trials.pop()
                    self.assertIsNone(trial.finish())
                    ended.append(trial)
                elif step == 2:
                    ended.append(Trial(desk))
                    ended[-1].finish()
                elif step == 3 and len(cups) > 1:
                    desk.back()
                    cups.pop()
                elif len(cups) < 4:
                    deed_done(desk, *some_deed(chooser, desk.cup_now))
                    cups.append(desk.cup_now.dice)
                for trial, _ in open_trials:
                    self.fails(TrialEnded, {}, trial.begin)
                    self.assertIs(trial.ended, False)
                for trial in ended:
                    self.fails(TrialEnded, {}, trial.begin)
                    self.assertIsNone(trial.finish())
                    self.assertIs(trial.ended, True)
                self.same([desk.done, desk.cup_now.dice], [len(cups) - 1, cups[-1]])
            self.same(state_of(desk), cups[::-1])

    def test_after_it(self):
        desk = Desk(RING)
        desk.turn_round()
        with Trial(desk):
            desk.mark = 0
        self.same([desk.back().dice, desk.done], [Cup(RING).dice, 0])
        self.fails(NothingBack, {}, desk.back)

    def test_two_desks(self):
        one, two = Desk(RING), Desk(RING)
        with Trial(one):
            one.turn_round()
            two.turn_round()
        self.same([one.done, two.done], [0, 1])


class TriedTest(DiceTest):
    def test_deeds(self):
        desk = Desk([[1, 0, 1], [0, 2, 0]])
        self.same(tried(desk, [["raise_face", 0, 0], ["throw_many", 2]]), [{"leads": (0, 2)}, {"faces": (4, 4)}])
        self.same([desk.done, desk.cup_now.dice], [0, ((1, 0, 1), (0, 2, 0))])
        desk.turn_round()
        found = tried(desk, (
            ("put", [1, 1, 1]), ("drop", 0), ["blend", Mix((1, 2))], ("stack_on", [[1], [1], [1]]), ("scale", (1, 2, 3)),
            ("turn_round",), ["back"], ("to_mark", 1), ("back",),
        ))
        self.assertIs(type(found), list)
        self.same(found[:6], [
            {"dice": 3, "leads": (0, 0), "ranks": 0}, {"dice": 2}, {"dice": 3, "leads": (0, 0)}, {"ranks": 4},
            {"faces": (3, 8, 27)}, {},
        ])
        self.assertTrue(all(type(cup) is Cup for cup in found[6:]))
        self.same([cup.dice for cup in found[7:]], [((1, 0, 1), (0, 2, 0))] * 2)
        self.same(desk.done, 1)
        self.same([tried(desk, []), tried(desk, ())], [[], []])

    def test_as_on_a_desk(self):
        chooser = chooser_of(652)
        for _ in range(60):
            desk = Desk(some_cup(chooser))
            deed_done(desk, *some_deed(chooser, desk.cup_now))
            other = Desk(desk.cup_now)
            deeds = []
            news = []
            for _ in range(5):
                deeds.append(some_deed(chooser, other.cup_now))
                news.append(deed_done(other, *deeds[-1]))
            before = state_of(desk)
            self.same(tried(desk, deeds), news)
            self.same(tried(desk, [list(deed) for deed in deeds]), news)
            self.same(state_of(desk), before)

    def test_an_error(self):
        desk = Desk(RING)
        desk.turn_round()
        before = state_of(desk)
        self.fails(BadDie, {"place": 1}, tried, desk, [["drop", 0], ["back"], ["put", (1, -1)], ["turn_round"]])
        self.same(state_of(desk), before)
        self.fails(NothingBack, {}, tried, desk, [["back"], ["back"]])
        self.fails(BadNumber, {"name": "mark"}, tried, desk, [["to_mark", 2]])
        self.same(state_of(desk), before)

    def test_wrong_deeds(self):
        desk = Desk(RING)
        for value in NO_ROWS + ("put",):
            self.fails(BadNumber, {"name": "deeds"}, tried, desk, value)
        wrong = NO_ROWS + (
            (), [], ("mark", 0), ("done",), ("cup_now",), ("table_now",), ("third", 0, 1), ("Put", (1, 0)), ("",), (None,),
            (1, 2), (["put"], (1, 0)), (("back",),), (b"back",), ("put",), ("put", (1,), (1,)), ("drop",), ("drop", 0, 0),
            ("raise_face", 0), ("raise_face", 0, 0, 0), ("stack_on",), ("blend",), ("throw_many",), ("scale",),
            ("turn_round", 0), ("back", 1), ("to_mark",), ("to_mark", 0, 0), ("keep", (1, 0)), ("begin",),
        )
        for value in wrong:
            self.fails(BadNumber, {"name": "deeds"}, tried, desk, [value])
            # all rows are looked at ahead of the first deed
            self.fails(BadNumber, {"name": "deeds"}, tried, desk, [["put", None], ("turn_round",), value])
        self.same(desk.done, 0)

    def test_two_hundred(self):
        desk = Desk(RING)
        self.same(self.ends_soon(5, tried, desk, [["turn_round"]] * 200), [{}] * 200)
        self.same(desk.done, 0)
        self.assertTrue(issubclass(TrialEnded, DiceError))


if __name__ == "__main__":
    unittest.main()
