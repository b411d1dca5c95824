"""Stands of trees: what a turner turns them into, as a reader sees it."""

from pergola.errors import NotAllowed, TooLarge
from pergola.follow import Follow
from pergola.least import sizes_of, trees_made
from pergola.readers import is_label, least_of
from pergola.table import moves_over
from pergola.terms import MAX_TREE

MAX_STANDS = 24


def stands_of(turner, reader):
    """Return the list of the pairs of a stand and the least tree that has it."""
    follow = Follow(turner, reader[1])
    stands, makings = follow.all_stands(MAX_STANDS)
    if max(sizes_of(makings)) > MAX_TREE:
        raise TooLarge("a least tree has a size above 400")
    return list(zip(stands, trees_made(turner[0], makings)))


def behind(turner, reader, label):
    """Return the least reader of the labels that a reader tells of what trees are turned into."""
    if not is_label(label):
        raise NotAllowed("a label must be at most 6 different words")
    follow = Follow(turner, reader[1])
    stands, _ = follow.all_stands(MAX_STANDS)
    firsts = [told[0] for _, told in stands]
    labels = [reader[0][first] if first >= 0 else label for first in firsts]
    return least_of(turner[0], (tuple(labels), moves_of_stands(follow, stands)))


def moves_of_stands(follow, stands):
    """Return the moves that tell the number of the stand that follows."""
    numbers = {stand: number for number, stand in enumerate(stands)}
    return moves_over(follow.signs, stands, lambda sign, parts: numbers[follow.stand(sign, parts)])


def turned_reader(turner):
    """Return the least reader that tells which trees are turned."""
    return behind(turner, one_state_reader(turner[1], ("yes",)), ())


def one_state_reader(signs, label):
    """Return the reader with one state that tells a label of all trees."""
    return (label,), moves_over(signs, [0], lambda sign, parts: 0)
