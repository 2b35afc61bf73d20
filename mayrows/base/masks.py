"""Sets of small numbers as bit masks: the number k is in a set if the bit k of its mask is set."""


def mask_of(numbers):
    """The set of these numbers."""
    mask = 0
    for number in numbers:
        mask = mask | 1 << number
    return mask


def members_of(mask):
    """The ascending tuple of the numbers in a set."""
    return tuple([number for number in range(mask.bit_length()) if mask >> number & 1])


def union_over(singles, mask):
    """The union of the sets `singles[k]` for each k in the set `mask`."""
    union = 0
    rest = mask
    while rest:
        union = union | singles[(rest & -rest).bit_length() - 1]
        rest = rest & (rest - 1)
    return union


def all_unions(singles):
    """A tuple that has, at the index of each mask, the union of the sets `singles[k]` for each k in the mask."""
    unions = [0]
    for single in singles:
        unions = unions + [known | single for known in unions]
    return tuple(unions)
