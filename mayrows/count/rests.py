"""How many answers the rest of a question has."""


def rest_counts(rows, writes, question):
    """For each place of the question, and behind it, and each state: with how many texts it leads to a last one."""
    counts = [[int(last) for last, nexts in rows]]
    for mark in question[::-1]:
        first = int(mark) << writes
        behind = counts[-1]
        counts.append([sum([behind[state] for state in nexts[first:first + (1 << writes)]]) for last, nexts in rows])
    return counts[::-1]
