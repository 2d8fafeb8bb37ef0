"""Graphs in a store: nodes and ties that a transaction makes, changes, takes away and looks at.

Each function asks for the transaction first, so that what the store raises for its number comes
ahead of all else. What is changed was asked for, so two that change one thing unseen by each other
do not both commit.
"""

from wholeways.errors import (NodeThere, NodeTied, NoNode, NotANode, NotATie, NoTieWord, NoWeight, NoWorth, TieThere)
from wholeways.graph import NODE_SIGN, TIE_SIGN, TURNED_SIGN, graph_of, node_key, tie_key, turned_key
from wholeways.kinds import LONGEST_WORD, is_name, is_tie_word, is_weight, is_worth

LEAST_NAME = "aaa"
GREATEST_NAME = "zzz"
LEAST_WORD = "aa"
GREATEST_WORD = "zz"
TIE_KEY_LENGTH = 9


def need_open(store, number):
    """What the store raises for a number of no open transaction."""
    store.stands_at(number)


def need_name(name):
    if not is_name(name):
        raise NoNode()


def need_worth(worth):
    if not is_worth(worth):
        raise NoWorth()


def need_tie_word(word):
    if not is_tie_word(word):
        raise NoTieWord()


def need_triple(first, word, second):
    need_name(first)
    need_name(second)
    need_tie_word(word)


def need_weight(weight):
    if not is_weight(weight):
        raise NoWeight()


def need_there(store, number, name):
    """The transaction asks for the node."""
    if store.get(number, node_key(name)) is None:
        raise NotANode(name)


def need_tied(store, number, triple):
    """The transaction asks for the tie."""
    if store.get(number, tie_key(*triple)) is None:
        raise NotATie()


def add_node(store, number, name, worth):
    """A node is there now."""
    need_open(store, number)
    need_name(name)
    need_worth(worth)
    if store.get(number, node_key(name)) is not None:
        raise NodeThere()
    store.put(number, node_key(name), worth)


def set_node(store, number, name, worth):
    """A node has this worth now."""
    need_open(store, number)
    need_name(name)
    need_worth(worth)
    need_there(store, number, name)
    store.put(number, node_key(name), worth)


def drop_node(store, number, name):
    """A node without ties is gone now."""
    need_open(store, number)
    need_name(name)
    need_there(store, number, name)
    if ties_at(store, number, TIE_SIGN, name, None) or ties_at(store, number, TURNED_SIGN, name, None):
        raise NodeTied()
    store.drop(number, node_key(name))


def add_tie(store, number, first, word, second, weight):
    """A tie is there now."""
    need_open(store, number)
    need_triple(first, word, second)
    need_weight(weight)
    need_there(store, number, first)
    need_there(store, number, second)
    if store.get(number, tie_key(first, word, second)) is not None:
        raise TieThere()
    put_tie(store, number, (first, word, second), weight)


def set_tie(store, number, first, word, second, weight):
    """A tie has this weight now."""
    need_open(store, number)
    need_triple(first, word, second)
    need_weight(weight)
    need_tied(store, number, (first, word, second))
    put_tie(store, number, (first, word, second), weight)


def put_tie(store, number, triple, weight):
    store.put(number, tie_key(*triple), weight)
    store.put(number, turned_key(*triple), weight)


def drop_tie(store, number, first, word, second):
    """A tie is gone now."""
    need_open(store, number)
    need_triple(first, word, second)
    need_tied(store, number, (first, word, second))
    store.drop(number, tie_key(first, word, second))
    store.drop(number, turned_key(first, word, second))


def node_worth(store, number, name):
    """The worth of a node, None if it is not there."""
    need_open(store, number)
    need_name(name)
    return store.get(number, node_key(name))


def tie_weight(store, number, first, word, second):
    """The weight of a tie, None if it is not there."""
    need_open(store, number)
    need_triple(first, word, second)
    return store.get(number, tie_key(first, word, second))


def ties_from(store, number, name, word):
    """The ascending list of the triples (word, other name, weight) of the ties from a node, by a word or all."""
    need_row(store, number, name, word)
    return ties_at(store, number, TIE_SIGN, name, word)


def ties_to(store, number, name, word):
    """The ascending list of the triples (word, first name, weight) of the ties to a node, by a word or all."""
    need_row(store, number, name, word)
    return ties_at(store, number, TURNED_SIGN, name, word)


def need_row(store, number, name, word):
    need_open(store, number)
    need_name(name)
    if word is not None:
        need_tie_word(word)


def ties_at(store, number, sign, name, word):
    """The triples (word, name, weight) of the ties that stand behind a sign and a name, by a word, or all."""
    low = sign + name + (LEAST_WORD if word is None else word) + LEAST_NAME
    high = sign + name + (GREATEST_WORD if word is None else word) + GREATEST_NAME
    found = store.between(number, low, high)
    # keys of other lengths, that were put otherwise, are of no tie
    return [(key[4:6], key[6:], weight) for key, weight in found if len(key) == TIE_KEY_LENGTH]


def graph_seen(store, number):
    """The graph that a transaction sees."""
    pairs = {}
    for sign in (NODE_SIGN, TIE_SIGN, TURNED_SIGN):
        for key, worth in store.between(number, sign, sign + "z" * (LONGEST_WORD - 1)):
            pairs[key] = worth
    return graph_of(pairs)
