"""Runs: a reader on a table, page by page, up to the end or the first fault."""

from partfirsts.errors import Ended, InvalidNumber, NothingLeft, PartsDiffer
from partfirsts.orders import inner_sorted, middle_sorted
from partfirsts.words import is_number

_MOST_CALLS = 1000


def _open_places(mark, places, told, part):
    """Those of the places of a part, given in its inner order, that it does not leave out."""
    if len(told) == 0:
        return places
    last_key, last_number, _ = told[-1]
    if mark == "key":
        return [place for place in places if place[0] > last_key]
    if mark == "from":
        return [place for place in places if place[0] >= last_key]
    if mark == "row":
        return [place for place in places if place > (last_key, last_number)]
    return _open_beside(mark, places, [(key, number) for key, number, parts in told if part in parts])


def _open_beside(mark, places, told_here):
    """The same for the marks that look only at the places that were told of this part."""
    if mark == "count":
        return places[len(told_here):]
    if len(told_here) == 0:
        return places
    if mark == "each":
        greatest = max(told_here)
        return [place for place in places if place > greatest]
    gone = {place: True for place in told_here}
    return [place for place in places if place not in gone]


class Run:
    """A reader on its way through a table; calls of page and move can be taken back."""

    def __init__(self, reader, table):
        if reader.parts != table.parts:
            raise PartsDiffer()
        self._reader = reader
        self._table = table
        self._pages = ()
        # The rows as they lay when they were told: the marks ask for their parts at that time.
        self._told = ()
        self._state = 0
        self._fault = None
        self._ended = False
        self._past = []
        self._future = []

    @property
    def reader(self):
        """The reader."""
        return self._reader

    @property
    def table(self):
        """The table as it is now."""
        return self._table

    @property
    def state(self):
        """The index of the state of the next page, or None if there is none."""
        return self._state

    @property
    def fault(self):
        """None, or the pair of the kind of the fault and the number of its row."""
        return self._fault

    @property
    def ended(self):
        """Whether the run ended without a fault."""
        return self._ended

    def open_rows(self, part):
        """The places that are open in this part, in the inner order."""
        places = inner_sorted(self._table.part(part), self._reader.inner)
        return _open_places(self._reader.mark, places, self._told, part)

    def sent(self, part):
        """The places that this part would send for the next page, in the inner order."""
        places = self.open_rows(part)
        if self._state is None:
            return []
        asks = self._reader.states()[self._state][1]
        return places[:asks[part]]

    def at_hand(self):
        """The places that would be at hand for the next page, in the middle order."""
        senders = {}
        for part in range(self._reader.parts):
            for place in self.sent(part):
                # The parts come ascending, so the first one is the least.
                senders.setdefault(place, part)
        return middle_sorted(senders, self._reader.order)

    def pages(self):
        """The pages that are not empty."""
        return [list(page) for page in self._pages]

    def told(self):
        """The numbers of the told rows, in the order in which they were told."""
        return [row[1] for row in self._told]

    def page(self):
        """Makes the next page; None if the run is found faulty ahead of it."""
        if self._state is None:
            raise Ended()
        self._keep_moment()
        ahead = self._fault_ahead()
        if ahead is not None:
            self._stop(ahead)
            return None
        size, _, full, thin = self._reader.states()[self._state]
        places = self.at_hand()[:size]
        if len(places) == 0:
            self._stop(None)
            return []
        self._tell(places)
        self._go_on(full if len(places) == size else thin)
        return places

    def __call__(self):
        return self.page()

    def play(self, *, most=100):
        """Makes pages until the run is over, or so many; what page returned."""
        if not is_number(most, 0, _MOST_CALLS):
            raise InvalidNumber(most)
        made = []
        while self._state is not None and len(made) < most:
            made.append(self.page())
        return made

    def move(self, number, *parts):
        """From now on the row with this number lies in these parts."""
        if self._state is None:
            raise Ended()
        table = self._table.moved(number, *parts)
        self._keep_moment()
        self._table = table

    def back(self):
        """Takes back the last call of page or move."""
        if len(self._past) == 0:
            raise NothingLeft()
        self._future.append(self._moment())
        self._restore(self._past.pop())

    def again(self):
        """Makes the call again that was taken back last."""
        if len(self._future) == 0:
            raise NothingLeft()
        self._past.append(self._moment())
        self._restore(self._future.pop())

    def history(self):
        """How many calls can be taken back, and how many can be made again."""
        return (len(self._past), len(self._future))

    def twin(self):
        """An independent run in the same state, with the same calls."""
        other = Run(self._reader, self._table)
        other._restore(self._moment())
        other._past = list(self._past)
        other._future = list(self._future)
        return other

    def _fault_ahead(self):
        opened = {}
        for part in range(self._reader.parts):
            for place in self.open_rows(part):
                opened[place] = True
        told = {row[1]: True for row in self._told}
        places = self._table.places()
        lost = [place[1] for place in places if place[1] not in told and place not in opened]
        if len(lost) > 0:
            return ("lost", lost[0])
        twice = [place[1] for place in places if place[1] in told and place in opened]
        if len(twice) > 0:
            return ("twice", twice[0])
        return None

    def _fault_behind(self, following):
        told = {row[1]: True for row in self._told}
        untold = [place for place in self._table.places() if place[1] not in told]
        if len(untold) == 0:
            return None
        key, number = untold[0]
        if max([row[0] for row in self._told]) > key:
            return ("late", number)
        if following is None:
            return ("left", number)
        return None

    def _tell(self, places):
        rows = [(key, number, self._table.parts_of(number)) for key, number in places]
        self._told = self._told + tuple(rows)
        self._pages = self._pages + (tuple(places),)

    def _go_on(self, following):
        fault = self._fault_behind(following)
        if fault is None and following is not None:
            self._state = following
        else:
            self._stop(fault)

    def _stop(self, fault):
        self._state = None
        self._fault = fault
        self._ended = fault is None

    def _moment(self):
        # Nothing in it is ever changed, so moments may be shared by twins.
        return (self._table, self._pages, self._told, self._state, self._fault, self._ended)

    def _restore(self, moment):
        self._table, self._pages, self._told, self._state, self._fault, self._ended = moment

    def _keep_moment(self):
        self._past.append(self._moment())
        self._future = []

    def __len__(self):
        return len(self._pages)

    def __bool__(self):
        return True

    def __repr__(self):
        return f"Run({len(self._pages)} pages)"


def judge(reader, table, *, moves=()):
    """The kind of the whole run, the number of the row of its fault, and its pages that are not empty."""
    run = Run(reader, table)
    while run.state is not None:
        # Each turn but the last one tells a page more, so no move is made a second time.
        many = len(run)
        for count, number, part in moves:
            if count == many:
                run.move(number, part)
        run.page()
    if run.fault is None:
        return ("right", None, run.pages())
    kind, row = run.fault
    return (kind, row, run.pages())
