"""Papers: for each house a turn from which on it is in, or None; their two sums bound every plan."""


def is_in(paper, house, turn):
    return paper[house] is not None and paper[house] <= turn


def letters_out(letters, paper, turn):
    return [letter for letter in letters if letter[1] <= turn and not is_in(paper, letter[0], letter[1])]


def turns_carried(road, paper, turn):
    # The turns at which a bag leaves an in house and comes to an out one lie
    # side by side, so they are counted from the first and the last of them.
    first = paper[road[0]]
    if first is None:
        return 0
    last_there = turn
    if paper[road[1]] is not None:
        last_there = min(turn, paper[road[1]] - 1)
    return max(0, last_there - road[2] - first + 1)


def paper_sum(net, letters, paper, turn):
    carried = sum([road[3] * turns_carried(road, paper, turn) for road in net.roads()])
    return (len(letters_out(letters, paper, turn)), carried)
