"""Least walks by several texts at once.

A graph has `steps_from(node)`: a list of pairs (marks, node to which they lead), where `marks` is a tuple with one
small number for each track. What the marks of one track tell along a walk is a text.
"""

from mayrows.base.reach import Numbers


def nodes_reached(graph, start, most=None):
    """The list of all nodes to which steps lead from one of them; more than `most` of them raise `TooMany`."""
    numbers = Numbers(start, most)
    at = 0
    while at < len(numbers.met):
        steps = graph.steps_from(numbers.met[at])
        for _, following in steps:
            numbers.number_of(following)
        at += 1
    return numbers.met


def least_tracks(graph, start, goals):
    """The texts of the least walk of one step or more from a node to one of the goals, or `None`.

    The walk is one of the fewest steps; of these the text of the first track is the least one, then that of the
    second track, and so on. `start` is none of the goals.
    """
    layers = _layers_to(graph, start, goals)
    if layers is None:
        return None
    steps = _kept_steps(layers, goals)
    texts = []
    for track in range(len(steps[0][0][1])):
        steps = _kept_steps(_least_by(steps, start, track), goals)
        texts.append("".join([str(layer[0][1][track]) for layer in steps]))
    return tuple(texts)


def _layers_to(graph, start, goals):
    """For each place of the shortest walks to a goal the steps (node, marks, following) that can stand there.

    A node stands at one place only: otherwise there would be a shorter walk.
    """
    known = {start: True}
    nodes = [start]
    layers = []
    while nodes:
        steps = [(node, marks, following) for node in nodes for marks, following in graph.steps_from(node)
                 if following not in known]
        layers.append(steps)
        for _, _, following in steps:
            known[following] = True
        nodes = sorted(set([following for _, _, following in steps]))
        if any([node in goals for node in nodes]):
            return layers
    return None


def _kept_steps(layers, goals):
    """The steps from which the steps behind them lead on to a goal."""
    kept = []
    wanted = goals
    for layer in layers[::-1]:
        steps = [step for step in layer if step[2] in wanted]
        kept.append(steps)
        wanted = {step[0]: True for step in steps}
    return kept[::-1]


def _least_by(layers, start, track):
    """The steps that are reached by the least marks of a track."""
    held = {start: True}
    found = []
    for layer in layers:
        steps = [step for step in layer if step[0] in held]
        least = min([step[1][track] for step in steps])
        steps = [step for step in steps if step[1][track] == least]
        held = {step[2]: True for step in steps}
        found.append(steps)
    return found
