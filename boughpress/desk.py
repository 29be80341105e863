"""The desk: learners by their names, told rows and answering each by a text."""

from boughpress.bests import best
from boughpress.errors import NoName, NoNumber, NoRow, NoSign
from boughpress.frames import are_figures, is_letter, is_text, make_frame
from boughpress.learner import Learner
from boughpress.packets import unwrap, wrap
from boughpress.press import press, read
from boughpress.treenotes import show_tree

ROW_SIZES = {
    "frame": 4, "learn": 3, "back": 3, "held": 2, "weight": 2, "chance": 3, "tree": 2, "press": 3, "read": 4,
    "wrap": 2, "unwrap": 3,
}
NAME_SIGNS = "abcdefghijklmnopqrstuvwxyz"
LONGEST_NAME = 8
MOST_FIGURES = 3
DONE = "ok"


def words_of(row):
    if not is_text(row):
        raise NoRow("a row is a text")
    words = row.split(" ")
    if ROW_SIZES.get(words[0]) != len(words):
        raise NoRow("there is no such row")
    return words


def checked_name(word):
    if not 1 <= len(word) <= LONGEST_NAME or not all([sign in NAME_SIGNS for sign in word]):
        raise NoName("a name has one to eight small letters")
    return word


def is_number(word):
    if not 1 <= len(word) <= MOST_FIGURES or not are_figures(word):
        return False
    return word == "0" or word[0] != "0"


def number(word):
    if not is_number(word):
        raise NoNumber("a number has one to three figures, with no 0 ahead")
    return int(word)


def written_fraction(one):
    top = one[0]
    bottom = one[1]
    return f"{top}/{bottom}"


def checked_letter(learner, word):
    if not is_letter(learner.frame, word):
        raise NoSign("that is no letter of the frame")
    return word


def learn(learner, text):
    # All signs are looked at ahead of the first that is taken, so that all or none are.
    signs = [checked_letter(learner, sign) for sign in text]
    for sign in signs:
        learner.take(sign)
    return DONE


def take_back(learner, many):
    learner.back(many)
    return DONE


def chance(learner, word):
    place = learner.frame[0].index(checked_letter(learner, word))
    return written_fraction(learner.shares()[place])


def best_tree(learner):
    return show_tree(learner.frame, best(learner.frame, learner.held())[1])


def answer(learner, words):
    if words[0] == "learn":
        return learn(learner, words[2])
    if words[0] == "back":
        return take_back(learner, number(words[2]))
    if words[0] == "held":
        return learner.held()
    if words[0] == "weight":
        return written_fraction(learner.weighs())
    if words[0] == "chance":
        return chance(learner, words[2])
    if words[0] == "tree":
        return best_tree(learner)
    if words[0] == "press":
        return press(learner.frame, words[2], learner.held())
    if words[0] == "read":
        return read(learner.frame, number(words[2]), words[3], learner.held())
    return wrap(learner.frame, learner.held())


class Desk:
    def __init__(self):
        self.learners = {}

    def say(self, row):
        words = words_of(row)
        name = checked_name(words[1])
        if words[0] == "frame":
            return self.place(name, make_frame(words[3], number(words[2])), "")
        if words[0] == "unwrap":
            told = unwrap(words[2])
            return self.place(name, told[0], told[1])
        return answer(self.standing(name), words)

    def place(self, name, frame, text):
        learner = Learner(frame)
        learn(learner, text)
        self.learners[name] = learner
        return DONE

    def standing(self, name):
        if name not in self.learners:
            raise NoName("nothing stands by that name")
        return self.learners[name]
