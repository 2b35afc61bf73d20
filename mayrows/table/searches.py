"""The pairs that rows of a table tell, in their order [0.9].

A layer has, for each state, whether pairs of one width lead from it to a last state.
"""

from mayrows.base.texts import MAX_WIDTH
from mayrows.errors import TooMany
from mayrows.table.states import met_rows


def layers_to(rows, width):
    """The layers of the widths from 0 to this one."""
    layers = [_last_layer(rows)]
    while len(layers) <= width:
        layers.append(_wider_layer(rows, layers[-1]))
    return layers


def pairs_in(rows, writes, layers):
    """A generator of all pairs of the width of the last layer, ascending."""
    for question in questions_in(rows, writes, layers):
        for answer in answers_in(rows, writes, question):
            yield question, answer


def questions_in(rows, writes, layers):
    """A generator of all questions of the width of the last layer that have an answer, ascending."""
    width = len(layers) - 1
    waiting = [("", [0])] if layers[width][0] else []
    while waiting:
        text, states = waiting.pop()
        if len(text) == width:
            yield text
        else:
            hopes = layers[width - len(text) - 1]
            longer = [(text + str(letter), _states_behind(rows, writes, states, letter, hopes))
                      for letter in range(len(rows[0][1]) >> writes)]
            # What is put on the pile last is taken first, so the least letter goes on top.
            waiting.extend([(following, held) for following, held in longer[::-1] if held])


def answers_in(rows, writes, question):
    """A generator of all answers of a question, ascending."""
    hopes = _answer_layers(rows, writes, question)
    waiting = [("", 0)] if hopes[0][0] else []
    while waiting:
        text, state = waiting.pop()
        place = len(text)
        if place == len(question):
            yield text
        else:
            nexts = _nexts_by(rows[state], writes, int(question[place]))
            longer = [(text + str(answer), following) for answer, following in enumerate(nexts)]
            waiting.extend([(said, following) for said, following in longer[::-1] if hopes[place + 1][following]])


def least_pair_in(rows, writes):
    """The least pair that leads from state 0 to a last state, or `None`; a wider one raises `TooMany`."""
    met = met_rows(rows)
    layers = _least_layers(met)
    for pair in pairs_in(met, writes, layers):
        return pair
    return None


def _least_layers(rows):
    """The layers up to the least width of a pair from state 0, all of whose rows are met."""
    layers = [_last_layer(rows)]
    while any(layers[-1]) and not layers[-1][0]:
        if len(layers) > MAX_WIDTH:
            raise TooMany(MAX_WIDTH)
        layers.append(_wider_layer(rows, layers[-1]))
    return layers


def _answer_layers(rows, writes, question):
    """For each place of the question, and behind it: from which states the rest leads to a last one."""
    layers = [_last_layer(rows)]
    for mark in question[::-1]:
        behind = layers[-1]
        layers.append([any([behind[state] for state in _nexts_by(row, writes, int(mark))]) for row in rows])
    return layers[::-1]


def _last_layer(rows):
    return [last for last, nexts in rows]


def _wider_layer(rows, layer):
    return [any([layer[state] for state in nexts]) for last, nexts in rows]


def _nexts_by(row, writes, letter):
    """The next states by this letter, one for each answer letter."""
    return row[1][letter << writes:(letter + 1) << writes]


def _states_behind(rows, writes, states, letter, hopes):
    """The states of the layer to which this letter leads from some of the states."""
    return sorted(set([following for state in states for following in _nexts_by(rows[state], writes, letter)
                       if hopes[following]]))
