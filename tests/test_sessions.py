"""[59], [60]: states, deeds, and what they answer."""

import unittest

from saidbetween.depths import least_bits
from saidbetween.errors import (
    BadDeed, BadParameter, BadQuestion, NoRow, NoTalk, SaidError, TooGreat,
)
from saidbetween.questions import first_unparted, need_question
from saidbetween.sessions import begun, need_state, played, session_step
from saidbetween.sizes import least_leaves
from tests.brute import LONE, LONE_PAIR, THIRTEEN, TWELVE
from tests.helpers import (
    all_signs_of, Case, Dice, EXAMPLE, QUESTION_REFUSALS, STRANGE, thrown_question, Touchy, TouchyText,
    WRONG_QUESTIONS,
)

SIGNS = EXAMPLE[1]
STATE = (EXAMPLE, ())
OTHER = (1, ((0, 1),), (1,), (0,))
PAST = (OTHER, LONE, EXAMPLE)

WRONG_STATES = [
    (None, ()), ((), ()), ((EXAMPLE,), ()), ((EXAMPLE, (), ()), ()), ([EXAMPLE, ()], ()), (EXAMPLE, ()),
    (Touchy(), ()), ("ab", ()), ((EXAMPLE, None), (1,)), ((EXAMPLE, []), (1,)), ((EXAMPLE, [OTHER]), (1,)),
    ((EXAMPLE, Touchy()), (1,)), ((EXAMPLE, (OTHER,) * 201), (1,)), ((EXAMPLE, (None,) * 201), (1,)),
    ((EXAMPLE, (None,)), (1, 0)), ((EXAMPLE, (OTHER, None)), (1, 1)), ((EXAMPLE, (OTHER, STATE, None)), (1, 1)),
    ((EXAMPLE, EXAMPLE), (1, 0)), ((EXAMPLE, (OTHER,) * 199 + (EXAMPLE[:3],)), (1, 199)),
    ((EXAMPLE, (OTHER, Touchy(), None)), (1, 1)), ((EXAMPLE, (list(OTHER),)), (1, 0)),
]
STATE_REFUSALS = [(state, BadDeed, {"place": place}) for state, place in WRONG_STATES] + [
    ((question, past), BadQuestion, {"place": place})
    for question, place in WRONG_QUESTIONS for past in ((), None, (None,))
]

WRONG_DEEDS = [
    None, (), ("yes",), ("no",), ("off",), ("sign",), ("unsign",), ("bits", 1), ("leaves", None),
    ("undo", ()), ("yes", 1, 2), ("off", 1, 2), ("redo",), ("YES", 1), ["yes", 1], ["undo"], "undo", "bits",
    1, (1, 1), ((), 1), (None,), Touchy(), (Touchy(),), (Touchy(), 1), (TouchyText("undo"),),
    (TouchyText("off"), 1), (b"undo",), ("bits",) * 2, ("undo", "undo"), ("", 1), {"undo"}, EXAMPLE,
]
DEED_REFUSALS = [(deed, BadDeed, {"place": ()}) for deed in WRONG_DEEDS]


def row_with(question, row, hand):
    """A question with a row more of YES or NO, by sets."""
    many, signs, yes, no = question
    lots = {"yes": set(yes) - {row}, "no": set(no) - {row}}
    if hand in lots:
        lots[hand].add(row)
    return (many, signs, tuple(sorted(lots["yes"])), tuple(sorted(lots["no"])))


def behind(question, deed):
    """What comes of a question by a deed that changes it, None if it is refused."""
    word, thing = deed
    many, signs, yes, no = question
    if word in ("sign", "unsign"):
        if thing not in all_signs_of(many) or (thing in signs) == (word == "sign"):
            return None
        return (many, tuple(sorted(set(signs) ^ {thing})), yes, no)
    if thing not in range(2 ** many):
        return None
    if word == "off":
        fresh = row_with(question, thing, word) if thing in yes + no else None
    else:
        fresh = row_with(question, thing, word) if thing not in (yes if word == "yes" else no) else None
    return fresh


def changes(many):
    rows = [(word, row) for word in ("yes", "no", "off") for row in range(2 ** many)]
    return rows + [(word, sign) for word in ("sign", "unsign") for sign in all_signs_of(many)]


def small_states(dice, count):
    out = [STATE, (EXAMPLE, PAST), (LONE, (EXAMPLE,)), (OTHER, ())]
    while len(out) < count:
        out.append((thrown_question(dice, 1 + dice.below(3)),
                    tuple(thrown_question(dice, 1 + dice.below(3)) for _ in range(dice.below(4)))))
    return out


class StateTest(Case):

    def test_begun(self):
        for question in (EXAMPLE, OTHER, LONE, THIRTEEN):
            self.assertEqual(begun(question), (question, ()))
        self.check_calls(begun, ("question",), (EXAMPLE,), [QUESTION_REFUSALS])

    def test_good_ones_are_returned_themselves(self):
        for state in small_states(Dice(261), 40):
            self.assertIs(need_state(state), state)

    def test_200_and_201_questions(self):
        for count in (0, 1, 199, 200):
            state = (EXAMPLE, (OTHER,) * count)
            self.assertIs(need_state(state), state)
        for count in (201, 202, 1000):
            for thing in (OTHER, None):
                self.refused(BadDeed, {"place": (1,)}, need_state, (EXAMPLE, (thing,) * count))

    def test_things_of_the_past(self):
        for at in range(3):
            for wrong in [value for value, _ in WRONG_QUESTIONS] + [None, Touchy(), STATE]:
                for last in (OTHER, None, Touchy()):
                    past = PAST[:at] + (wrong,) + (last,) * 2
                    self.refused(BadDeed, {"place": (1, at)}, need_state, (EXAMPLE, past))
                    self.refused(BadDeed, {"place": (1, at)}, session_step, (EXAMPLE, past), None)

    def test_values_of_any_kind(self):
        for value in STRANGE:
            if type(value) is tuple and len(value) == 2:
                place = (0,) if type(value[0]) is tuple and len(value[0]) == 4 else ()
                self.refused(BadQuestion, {"place": place}, need_state, value)
            else:
                self.refused(BadDeed, {"place": ()}, need_state, value)
            self.refused(BadQuestion, {}, need_state, (value, value))
            if type(value) is tuple:
                place = (1, 0) if value else None
            else:
                place = (1,)
            if place is not None:
                self.refused(BadDeed, {"place": place}, need_state, (EXAMPLE, value))

    def test_refused_in_order(self):
        self.check_calls(need_state, ("state",), ((EXAMPLE, PAST),), [STATE_REFUSALS])


class ChangeTest(Case):

    def test_each_deed(self):
        seen = set()
        for state in small_states(Dice(262), 30):
            question, past = state
            for deed in changes(question[0]):
                fresh = behind(question, deed)
                if fresh is None:
                    self.refused(BadParameter, {"value": deed[1]}, session_step, state, deed)
                    seen.add((deed[0], None))
                elif not fresh[2] or not fresh[3]:
                    place = (2,) if not fresh[2] else (3,)
                    self.refused(BadQuestion, {"place": place}, session_step, state, deed)
                    seen.add((deed[0], place))
                else:
                    answer = session_step(state, deed)
                    self.assertEqual(answer, ((fresh, past + (question,)), None))
                    self.assertIs(need_question(fresh), fresh)
                    self.assertEqual(session_step(answer[0], ("undo",)), (state, None))
                    seen.add((deed[0], True))
        self.assertEqual(seen, {(word, kind) for word in ("yes", "no", "off", "sign", "unsign")
                                for kind in (None, True)}
                         | {("yes", (3,)), ("no", (2,)), ("off", (2,)), ("off", (3,))})

    def test_a_row_goes_out_of_the_other_lot(self):
        for word, row, lots in (
            ("yes", 0, ((0, 1, 2), (3,))), ("yes", 3, ((1, 2, 3), (0,))), ("no", 1, ((2,), (0, 1, 3))),
            ("off", 1, ((2,), (0, 3))), ("off", 3, ((1, 2), (0,))),
        ):
            fresh = (2, SIGNS) + lots
            self.assertEqual(session_step(STATE, (word, row)), ((fresh, (EXAMPLE,)), None))
        for word, row in (("yes", 1), ("yes", 2), ("no", 0), ("no", 3)):
            self.refused(BadParameter, {"value": row}, session_step, STATE, (word, row))
        lone = (2, SIGNS, (1,), (0,))
        for word in ("yes", "no"):
            self.assertEqual(session_step((lone, ()), (word, 3))[0][0], row_with(lone, 3, word))
        self.refused(BadQuestion, {"place": (3,)}, session_step, (lone, ()), ("yes", 0))
        self.refused(BadQuestion, {"place": (2,)}, session_step, (lone, ()), ("no", 1))
        self.refused(BadQuestion, {"place": (2,)}, session_step, (lone, ()), ("off", 1))
        self.refused(BadQuestion, {"place": (3,)}, session_step, (lone, ()), ("off", 0))
        for row in (2, 3):
            self.refused(BadParameter, {"value": row}, session_step, (lone, ()), ("off", row))

    def test_signs(self):
        without = (2, SIGNS[:1] + SIGNS[2:], (1, 2), (0, 3))
        self.assertEqual(session_step(STATE, ("unsign", (0, 1))), ((without, (EXAMPLE,)), None))
        self.assertEqual(session_step((without, (OTHER,)), ("sign", (0, 1))),
                         ((EXAMPLE, (OTHER, without)), None))
        self.refused(BadParameter, {"value": (0, 1)}, session_step, (without, ()), ("unsign", (0, 1)))
        self.refused(BadParameter, {"value": (0, 1)}, session_step, STATE, ("sign", (0, 1)))
        none = (2, (), (1, 2), (0, 3))
        one = (2, ((1, 0),), (1, 2), (0, 3))
        self.assertEqual(session_step((one, ()), ("unsign", (1, 0)))[0][0], none)
        self.assertEqual(session_step((none, ()), ("sign", (1, 0)))[0][0], one)

    def test_rows_and_signs_of_any_kind(self):
        for value in STRANGE + [4, -1, 256, (2, 0), (0, 2), (-1, 0), (0, -1), (0, 1, 0), [0, 1]]:
            for word in ("yes", "no", "off", "sign", "unsign"):
                if word in ("sign", "unsign") and type(value) is tuple and len(value) == 2 and (
                        type(value[0]) is int and type(value[1]) is int and value in SIGNS):
                    continue
                self.refused(BadParameter, {"value": value}, session_step, STATE, (word, value))
                self.refused(BadParameter, {"value": value}, played, EXAMPLE, ((word, value),))


class AskTest(Case):

    def test_as_of_the_question_by_itself(self):
        dice = Dice(263)
        answers = set()
        for state in small_states(dice, 30):
            question = state[0]
            for word, function in (("bits", least_bits), ("leaves", least_leaves)):
                if len(question[2]) + len(question[3]) > 8:
                    continue
                pair = first_unparted(question)
                if pair is None:
                    answer = function(question)[0]
                    self.assertEqual(session_step(state, (word,)), (state, answer))
                    self.assertEqual(session_step(begun(question), (word,))[1], answer)
                    answers.add(answer)
                else:
                    self.refused(NoTalk, {"pair": pair}, session_step, state, (word,))
        self.assertGreater(len(answers), 3)

    def test_refused(self):
        for word in ("bits", "leaves"):
            self.refused(TooGreat, {"most": 12}, session_step, (THIRTEEN, ()), (word,))
            self.refused(NoTalk, {"pair": LONE_PAIR}, session_step, (LONE, PAST), (word,))
        self.assertEqual(session_step((TWELVE, ()), ("bits",))[1], least_bits(TWELVE)[0])


class UndoTest(Case):

    def test_undo(self):
        for state in small_states(Dice(264), 30):
            question, past = state
            if past:
                self.assertEqual(session_step(state, ("undo",)), ((past[-1], past[:-1]), None))
            else:
                self.refused(NoRow, {}, session_step, state, ("undo",))
        self.refused(NoRow, {}, session_step, STATE, ("undo",))
        self.refused(NoRow, {}, played, EXAMPLE, (("off", 1), ("undo",), ("bits",), ("undo",)))

    def test_asks_are_not_taken_back(self):
        state, answers = played(EXAMPLE, (("off", 3), ("bits",), ("leaves",), ("undo",)))
        self.assertEqual(state, STATE)
        self.assertEqual(answers, (None, 1, 2, None))


class GreatPastTest(Case):

    def test_200_questions(self):
        full = (EXAMPLE, (OTHER,) * 200)
        nearly = (EXAMPLE, (OTHER,) * 199)
        for deed in (("yes", 0), ("no", 1), ("off", 3), ("unsign", (0, 1))):
            self.refused(TooGreat, {"most": 200}, session_step, full, deed)
            state, answer = session_step(nearly, deed)
            self.assertEqual((len(state[1]), answer), (200, None))
            self.assertEqual(state[1][-1], EXAMPLE)
        self.refused(TooGreat, {"most": 200}, session_step, (OTHER, (OTHER,) * 200), ("sign", (0, 0)))
        self.assertEqual(session_step(full, ("bits",)), (full, 2))
        self.assertEqual(session_step(full, ("leaves",)), (full, 4))
        self.assertEqual(session_step(full, ("undo",)), ((OTHER, (OTHER,) * 199), None))

    def test_behind_all_other_refusals(self):
        full = (EXAMPLE, (OTHER,) * 200)
        for deed in (("yes", 1), ("no", 4), ("off", None), ("sign", (0, 1)), ("unsign", (2, 0))):
            self.refused(BadParameter, {"value": deed[1]}, session_step, full, deed)
        lone = ((1, (), (1,), (0,)), (OTHER,) * 200)
        self.refused(BadQuestion, {"place": (3,)}, session_step, lone, ("yes", 0))
        self.refused(BadQuestion, {"place": (2,)}, session_step, lone, ("off", 1))
        self.refused(NoTalk, {"pair": (1, 0)}, session_step, lone, ("bits",))
        self.refused(BadDeed, {"place": ()}, session_step, full, ("redo",))
        self.refused(BadDeed, {"place": (1,)}, session_step, (EXAMPLE, (OTHER,) * 201), ("yes", 0))

    def test_played(self):
        there_and_back = (("off", 3), ("no", 3))
        state, answers = played(EXAMPLE, there_and_back * 100)
        self.assertEqual((state[0], len(state[1]), answers), (EXAMPLE, 200, (None,) * 200))
        self.refused(TooGreat, {"most": 200}, played, EXAMPLE, there_and_back * 100 + (("off", 3),))
        taken_back = (("off", 3), ("undo",)) * 300
        self.assertEqual(played(EXAMPLE, taken_back), (STATE, (None,) * 600))


class StepTest(Case):

    def test_refused_in_order(self):
        for deed in (("yes", 0), ("unsign", (0, 1)), ("leaves",), ("undo",)):
            self.check_calls(session_step, ("state", "deed"), ((EXAMPLE, PAST), deed),
                             [STATE_REFUSALS, DEED_REFUSALS])

    def test_deeds_of_any_kind(self):
        for value in STRANGE:
            if type(value) is tuple and len(value) == 2 and type(value[0]) is str and value[0] == "yes":
                continue
            self.refused(BadDeed, {"place": ()}, session_step, STATE, value)
            self.refused(BadDeed, {"place": ()}, played, EXAMPLE, (("bits",), value))
        self.refused(BadParameter, {"value": ()}, session_step, STATE, ("yes", ()))

    def test_what_is_refused_changes_nothing(self):
        state = (EXAMPLE, PAST)
        for deed in [("yes", 1), ("off", 9), ("sign", (0, 1)), None, ("undo", 1)]:
            with self.assertRaises(SaidError):
                session_step(state, deed)
            self.assertEqual(state, (EXAMPLE, PAST))
        self.assertEqual(session_step(state, ("undo",)), ((EXAMPLE, PAST[:-1]), None))


class PlayedTest(Case):

    def test_as_step_by_step(self):
        dice = Dice(265)
        words = set()
        for _ in range(40):
            question = thrown_question(dice, 1 + dice.below(2), every_sign=True)
            state, answers, deeds = begun(question), [], []
            for _ in range(12):
                choices = changes(state[0][0]) + [("bits",), ("leaves",), ("undo",)] * 4
                deed = choices[dice.below(len(choices))]
                try:
                    state, answer = session_step(state, deed)
                except SaidError as refused:
                    held = {name: getattr(refused, name) for name in ("value", "place", "pair")
                            if hasattr(refused, name)}
                    self.refused(type(refused), held, played, question, tuple(deeds) + (deed, None))
                    continue
                deeds.append(deed)
                answers.append(answer)
                words.add(deed[0])
            self.assertEqual(played(question, tuple(deeds)), (state, tuple(answers)))
        self.assertEqual(len(words), 8)
        self.assertEqual(played(EXAMPLE, ()), (STATE, ()))

    def test_example(self):
        state, answers = played(EXAMPLE, (("bits",), ("off", 3), ("bits",)))
        self.assertEqual(answers, (2, None, 1))
        self.assertEqual(state, ((2, SIGNS, (1, 2), (0,)), (EXAMPLE,)))

    def test_refused_in_order(self):
        deeds = [(value, BadParameter, {"value": value}) for value in (
            None, [("bits",)], 1, "bits", {("bits",)}, Touchy(), iter(()))]
        deeds += [((("bits",), value), BadDeed, {"place": ()}) for value in WRONG_DEEDS]
        deeds += [(("bits",), BadDeed, {"place": ()}), ((("yes", 1), None), BadParameter, {"value": 1})]
        self.check_calls(played, ("question", "deeds"), (EXAMPLE, (("bits",), ("off", 3))),
                         [QUESTION_REFUSALS, deeds])


class FactsTest(Case):

    def test_more_and_less(self):
        dice = Dice(266)
        seen = set()
        for _ in range(25):
            question = thrown_question(dice, 2, every_sign=dice.below(2) == 1)
            if first_unparted(question) is not None:
                continue
            ahead = played(question, (("bits",), ("leaves",)))[1]
            for deed in changes(2):
                fresh = behind(question, deed)
                if fresh is None or not fresh[2] or not fresh[3] or first_unparted(fresh) is not None:
                    continue
                later = played(question, (deed, ("bits",), ("leaves",)))[1][1:]
                takes = deed[0] in ("yes", "no") and deed[1] in question[2] + question[3]
                for one, other in zip(ahead, later):
                    if deed[0] in ("off", "sign"):
                        self.assertLessEqual(other, one)
                    elif not takes:
                        self.assertGreaterEqual(other, one)
                    seen.add((deed[0], other - one))
        self.assertTrue(any(word == "off" and more < 0 for word, more in seen))
        self.assertTrue(any(word == "yes" and more > 0 for word, more in seen))

    def test_played_again(self):
        deeds = (("off", 3), ("bits",), ("yes", 3), ("undo",), ("unsign", (1, 0)), ("leaves",))
        self.assertEqual(played(EXAMPLE, deeds), played(EXAMPLE, deeds))
        # What was asked ahead has no part in it.
        asked = sum([(("bits",), deed, ("leaves",)) for deed in deeds], ())
        self.assertEqual(played(EXAMPLE, asked)[0], played(EXAMPLE, deeds)[0])


if __name__ == "__main__":
    unittest.main()
