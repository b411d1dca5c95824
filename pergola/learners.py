"""Learners, which ask questions about an unknown reader until they know it."""

from pergola.contexts import surrounding_of
from pergola.errors import Missing, NotAllowed
from pergola.pool import Pool
from pergola.readers import is_label, least_of, read_tree
from pergola.study import Study
from pergola.terms import is_tree

MAX_LEARNED = 10
LABEL = "label"
RIGHT = "right"


class Learner:
    """A learner; what it knows is in a study, and its question is None when it is done."""

    def __init__(self, signs):
        self.signs = signs
        self.pool = Pool(signs)
        self.asked = None
        self.found = None
        self.study = Study(signs, self.pool, MAX_LEARNED)
        self.go_on(self.study)

    def go_on(self, study):
        """Go on with a study to the next question; raise TooLarge if there is none."""
        number = study.next_tree()
        self.study = study
        if number < 0:
            self.asked = (RIGHT, least_of(self.signs, study.reader_told()))
        else:
            self.asked = (LABEL, number)

    def question(self):
        """Return the question, a word with a tree or a reader."""
        if self.asked is None:
            raise Missing("the learner is done")
        word, thing = self.asked
        return (word, self.pool.tree(thing)) if word == LABEL else (word, thing)

    def thing_asked(self, word):
        """Return what is asked for, if the question has this word."""
        if self.asked is None or self.asked[0] != word:
            raise Missing("this was not asked")
        return self.asked[1]

    def learn(self, number, label):
        """Learn the label of a tree, and go on to the next question."""
        study = self.study.twin()
        study.known[number] = label
        self.go_on(study)

    def tell(self, label):
        """Answer the question for the label of a tree."""
        number = self.thing_asked(LABEL)
        check_label(label)
        self.learn(number, label)

    def agree(self):
        """Answer that the reader is right."""
        self.found = self.thing_asked(RIGHT)
        self.asked = None

    def differ(self, tree, label):
        """Answer that the unknown reader tells another label of a tree."""
        asked = self.thing_asked(RIGHT)
        if not is_tree(self.signs, tree):
            raise NotAllowed("there must be a tree")
        check_label(label)
        number = self.pool.number_for(tree)
        if number in self.study.known or read_tree(self.signs, asked, tree) == label:
            raise NotAllowed("the label of this tree is told already")
        self.learn(number, label)

    def is_done(self):
        """Return True if the learner is done."""
        return self.found is not None

    def check_done(self):
        """Raise Missing if the learner is not done."""
        if self.found is None:
            raise Missing("the learner is not done")

    def reader(self):
        """Return the reader that was right."""
        self.check_done()
        return self.found

    def paper(self):
        """Return a right paper that the sample forces the reader."""
        self.check_done()
        trees = tuple([self.pool.tree(root) for root in self.study.roots])
        return trees, tuple([surrounding_of(self.pool, context) for context in self.study.contexts])

    def sample(self):
        """Return the trees with their labels, in the order of the answers."""
        return tuple([(self.pool.tree(number), label) for number, label in self.study.known.items()])

    def states(self):
        """Return how many trees are known to have different states by each reader that fits the sample."""
        return len(self.study.roots)


def check_label(label):
    """Raise NotAllowed if a tuple of texts is not a label."""
    if not is_label(label):
        raise NotAllowed("a label must be at most 6 different words")
