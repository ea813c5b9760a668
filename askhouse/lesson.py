"""A learner taught by a house."""

from askhouse.compare import difference
from askhouse.learner import Learner


def answer_all(learner, house):
    answered = 0
    word = learner.question()
    while word is not None:
        learner.answer(house.says(word))
        answered += 1
        word = learner.question()
    return answered


def lesson(house):
    learner = Learner(house.doors)
    answered = answer_all(learner, house)
    told = []
    word = difference(learner.guess(), house)
    while word is not None:
        learner.wrong(word, house.says(word))
        told.append(word)
        answered += answer_all(learner, house)
        word = difference(learner.guess(), house)
    return (learner.guess(), told, answered)
