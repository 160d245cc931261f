"""A slow player that is written straight from the document's words, to hold the program against."""

STEP = ((0, -1), (1, 0), (0, 1), (-1, 0))
COLOUR_OF_DOOR = {15: 12, 16: 13, 17: 14}
THINGS = (4, 5, 12, 13, 14)


class Player:
    """One level. Spots are (x, y, marked cells, A on, B on)."""

    def __init__(self, w, h, codes):
        self.w = w
        self.h = h
        self.code = {(x, y): codes[y * w + x] for y in range(h) for x in range(w)}
        self.things = [(x, y) for y in range(h) for x in range(w) if self.code[x, y] in THINGS]
        self.start = next(cell for cell in self.code if self.code[cell] == 2)
        self.played = {}

    def codes(self):
        return [self.code[x, y] for y in range(self.h) for x in range(self.w)]

    def codes_with(self, cell, code):
        return [code if (x, y) == cell else self.code[x, y] for y in range(self.h) for x in range(self.w)]

    def first(self):
        return (*self.start, frozenset(), False, False)

    def over(self, spot):
        return self.code[spot[:2]] == 3

    def keys_in_hand(self, marked):
        codes = [self.code[cell] for cell in marked]
        return codes.count(4) - codes.count(5)

    def play(self, spot, act):
        """The spot behind the act, or None."""
        if (spot, act) not in self.played:
            self.played[spot, act] = self.find_play(spot, act)
        return self.played[spot, act]

    def find_play(self, spot, act):
        x, y, marked, a_on, b_on = spot
        code = self.code[x, y]
        if code == 3:
            return None
        if act == 4:
            if code == 6:
                return x, y, marked, not a_on, b_on
            if code == 7:
                return x, y, marked, a_on, not b_on
            return None
        if code >= 18 and code - 18 != act:
            return None
        to = (x + STEP[act][0], y + STEP[act][1])
        marked = self.let_in(to, act, marked, a_on, b_on)
        return None if marked is None else (*to, marked, a_on, b_on)

    def let_in(self, to, act, marked, a_on, b_on):
        code = self.code.get(to, 0)
        if code in (4, 12, 13, 14):
            return marked | {to}
        if code == 5:
            return marked | {to} if to in marked or self.keys_in_hand(marked) > 0 else None
        free = True
        if code == 0:
            free = False
        elif code in (8, 9, 10, 11):
            free = (a_on, not a_on, b_on, not b_on)[code - 8]
        elif code in COLOUR_OF_DOOR:
            free = COLOUR_OF_DOOR[code] in [self.code[cell] for cell in marked]
        elif code >= 18:
            free = (code - 18, act) not in ((0, 2), (1, 3), (2, 0), (3, 1))
        return marked if free else None

    def behind(self, spot):
        return [spot for spot in [self.play(spot, act) for act in range(5)] if spot is not None]

    def play_all(self, spot, acts):
        for act in acts:
            if spot is not None:
                spot = self.play(spot, act)
        return spot

    def least_lists(self, spot):
        """For each spot that can be reached the least of the lists of the fewest acts, compared as such."""
        found = {spot: ()}
        layer = {spot: ()}
        while layer:
            further = {}
            for before, acts in layer.items():
                for act in range(5):
                    behind = self.play(before, act)
                    if behind is None or behind in found:
                        continue
                    further[behind] = min(further.get(behind, acts + (act,)), acts + (act,))
            found.update(further)
            layer = further
        return found

    def hopeful(self, spots):
        """Those from which stairs can be reached: more and more of them, until none is left to add."""
        found = {spot for spot in spots if self.over(spot)}
        more = True
        while more:
            more = {spot for spot in spots
                    if spot not in found and any(behind in found for behind in self.behind(spot))}
            found |= more
        return found

    def ways(self, spot):
        """Lists of each length are counted, those too that come to a spot a second time."""
        if not any(map(self.over, self.least_lists(spot))):
            return 0
        counts = {spot: 1}
        while not any(map(self.over, counts)):
            further = {}
            for before, count in counts.items():
                for behind in self.behind(before):
                    further[behind] = further.get(behind, 0) + count
            counts = further
        return sum(count for other, count in counts.items() if self.over(other)) % 1000000007

    def marks(self, spot):
        """As here tells them: one of each thing, then of A, then of B."""
        return [int(cell in spot[2]) for cell in self.things] + [int(spot[3]), int(spot[4])]

    def place(self, spot):
        return [*spot[:2], int(self.over(spot))]


def row(numbers):
    return [len(numbers), *numbers]


def first_of(lists):
    if not lists:
        return [0]
    return [1] + row(min(lists, key=lambda acts: (len(acts), acts)))


def refusal_of(codes):
    if codes.count(2) != 1 or 3 not in codes:
        return -4
    return -5 if sum(code in THINGS for code in codes) > 6 else 0


class Game:
    """What a line's object answers. A call is handed in as the interface tells it."""

    RANGES = {1: [(0, 4)], 6: [(0, 9)] * 2, 10: [(0, 5)], 12: [(0, 9), (0, 9), (0, 21)]}
    NAMES = ("open", "do", "back", "again", "here", "least", "far", "reach", "spoilt", "spoil", "needed",
             "try", "edit", "ways", "things", "state")

    def __init__(self):
        self.player = None
        self.spots = []

    def begin(self, player):
        self.player = player
        self.spots = [player.first()]

    def outside(self, number, numbers):
        if number == 0:
            w, h, codes = numbers[0], numbers[1], numbers[3:]
            return not (2 <= w <= 10 and 2 <= h <= 10 and len(codes) == w * h
                        and all(0 <= code <= 21 for code in codes))
        if number == 11:
            return not all(0 <= act <= 4 for act in numbers[1:])
        return not all(low <= one <= high for one, (low, high) in zip(numbers, self.RANGES.get(number, ())))

    def answer(self, call):
        number, numbers = call[0], call[1:]
        if self.outside(number, numbers):
            return [-1]
        if number != 0 and self.player is None:
            return [-2]
        told = getattr(self, "call_" + self.NAMES[number])(numbers)
        return [told] if isinstance(told, int) else [0] + told

    def here(self):
        return self.spots[-1]

    def call_open(self, numbers):
        if refusal_of(numbers[3:]):
            return refusal_of(numbers[3:])
        self.begin(Player(numbers[0], numbers[1], numbers[3:]))
        return [len(self.player.things)]

    def call_do(self, numbers):
        behind = self.player.play(self.here(), numbers[0])
        if behind is None:
            return -7 if self.player.over(self.here()) else -6
        self.spots.append(behind)
        return self.player.place(behind)

    def call_back(self, numbers):
        if len(self.spots) == 1:
            return -8
        self.spots.pop()
        return self.player.place(self.here())

    def call_again(self, numbers):
        self.begin(self.player)
        return []

    def call_here(self, numbers):
        player = self.player
        return (player.place(self.here()) + [len(self.spots) - 1, player.keys_in_hand(self.here()[2])]
                + row(player.marks(self.here())))

    def lists_to(self, is_goal):
        return first_of([acts for spot, acts in self.player.least_lists(self.here()).items() if is_goal(spot)])

    def call_least(self, numbers):
        return self.lists_to(self.player.over)

    def call_far(self, numbers):
        if tuple(numbers) not in self.player.code:
            return -3
        return self.lists_to(lambda spot: spot[:2] == tuple(numbers))

    def call_reach(self, numbers):
        spots = list(self.player.least_lists(self.here()))
        return [len(spots), len({spot[:2] for spot in spots}), int(any(map(self.player.over, spots)))]

    def call_spoilt(self, numbers):
        return [int(not any(map(self.player.over, self.player.least_lists(self.here()))))]

    def call_spoil(self, numbers):
        hopeful = self.player.hopeful(list(self.player.least_lists(self.here())))
        return self.lists_to(lambda spot: spot not in hopeful)

    def call_needed(self, numbers):
        if numbers[0] >= len(self.player.things):
            return -3
        cell = self.player.things[numbers[0]]
        codes = self.player.codes_with(cell, 0 if self.player.code[cell] == 5 else 1)
        other = Player(self.player.w, self.player.h, codes)
        return [int(not any(map(other.over, other.least_lists(other.first()))))]

    def call_try(self, numbers):
        acts = numbers[1:]
        done = 0
        while done < len(acts) and self.player.play_all(self.here(), acts[:done + 1]) is not None:
            done += 1
        return [done] + self.player.place(self.player.play_all(self.here(), acts[:done]))

    def call_edit(self, numbers):
        cell = tuple(numbers[:2])
        if cell not in self.player.code:
            return -3
        codes = self.player.codes_with(cell, numbers[2])
        if refusal_of(codes):
            return refusal_of(codes)
        self.begin(Player(self.player.w, self.player.h, codes))
        return []

    def call_ways(self, numbers):
        return [self.player.ways(self.here())]

    def call_things(self, numbers):
        return row([number for cell in self.player.things for number in (*cell, self.player.code[cell])])

    def call_state(self, numbers):
        player = self.player
        told = []
        for spot in self.spots[::-1]:
            told.append(spot[1] * player.w + spot[0])
            told.append(sum(2 ** place for place, mark in enumerate(player.marks(spot)) if mark))
        return [player.w, player.h] + row(player.codes()) + row(told)
