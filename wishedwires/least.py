"""The least differences of a wished and a drawn form, and papers that no pairing costs less."""

from math import lcm

from wishedwires.checks import is_whole
from wishedwires.errors import InvalidForm, LimitExceeded
from wishedwires.junctions import all_owners, second_names, touched
from wishedwires.pricing import Pairing, Prices
from wishedwires.ratios import Ratio
from wishedwires.ways import MOST_LEAVES, ways

MOST_WEIGHT = 20000
LEFT = -1


class Task:
    """A wished and a drawn form with prices: all that a wished item may be taken to.

    Prices are kept as integers: multiplied by what makes all of them, and the prices that are asked about, whole.
    """

    def __init__(self, wished, drawn, prices, asked):
        self.scale = lcm(prices.lost.bottom, prices.surplus.bottom, prices.value.bottom, prices.junction.bottom,
                         asked.bottom)
        self.lost_cost = self.scaled(prices.lost)
        self.surplus_cost = self.scaled(prices.surplus)
        self.value_cost = self.scaled(prices.value)
        self.junction_cost = self.scaled(prices.junction)
        self.shapes = {item.id: item.shape for item in wished.entries}
        self.options = {}
        self.numbers = {}
        found = _ways_by_shape(wished)
        for item in wished.entries:
            self._add_options(item, [other for other in drawn.entries if other.shape == item.shape], found[item.shape])
        self.order = _order(wished, self.options)

    def scaled(self, price):
        """A price as an integer."""
        return price.top * (self.scale // price.bottom)

    def _add_options(self, item, others, found):
        """The options of a wished item: (drawn id, way, meetings, number of unlike values), each once but for its way.

        Numbers tells for each drawn id and way which option it is.
        """
        options, numbers, seen = [], {}, {}
        for other in others:
            for way in found:
                pairs = tuple(sorted(set([(net, other.slots[pin]) for net, pin in zip(item.slots, way[0])])))
                unlike = len([worth for worth, leaf in zip(item.worths, way[1]) if worth != other.worths[leaf]])
                sign = (other.id, pairs, unlike)
                if sign not in seen:
                    seen[sign] = len(options)
                    options.append((other.id, way, pairs, unlike))
                numbers[(other.id, way)] = seen[sign]
        self.options[item.id] = options
        self.numbers[item.id] = numbers


class Stand:
    """What is decided so far: for wished items their options or None, which drawn items are partners, the meetings.

    Excess tells, for each shape, by how many the undecided wished items are more than the drawn ones without a
    partner. Fixed is the cost without junctions: of the decided ones, and of what will be lost and surplus for sure.
    """

    def __init__(self, taken, partners, excess, fixed, seconds, many):
        self.taken = taken
        self.partners = partners
        self.excess = excess
        self.fixed = fixed
        self.seconds = seconds
        self.many = many

    def taking(self, task, name, option):
        """The stand with a wished item taken to its partner in an option."""
        partner, _, pairs, unlike = option
        seconds, many = self.seconds, self.many
        for first, second in pairs:
            if second not in seconds.get(first, ()):
                seconds = {**seconds, first: (*seconds.get(first, ()), second)}
                many = many + 1
        fixed = self.fixed + unlike * task.value_cost
        taken, partners = {**self.taken, name: option}, {**self.partners, partner: True}
        return Stand(taken, partners, self.excess, fixed, seconds, many)

    def leaving(self, task, name):
        """The stand with a wished item left without a partner."""
        shape = task.shapes[name]
        fixed = self.fixed if self.excess[shape] > 0 else self.fixed + task.lost_cost + task.surplus_cost
        excess = {**self.excess, shape: self.excess[shape] - 1}
        return Stand({**self.taken, name: None}, self.partners, excess, fixed, self.seconds, self.many)


def weight(wished, drawn):
    """The weight of two forms: one more than the ways, multiplied over the wished items."""
    _check_ports_and_leaves(wished, drawn)
    found = _ways_by_shape(wished)
    shapes = [item.shape for item in drawn.entries]
    product = 1
    for item in wished.entries:
        product = product * (1 + shapes.count(item.shape) * len(found[item.shape]))
    return product


def least_differences(wished, drawn, prices=None):
    """A pairing of the least price."""
    _check_limits(wished, drawn)
    costs = Prices() if prices is None else prices
    task = Task(wished, drawn, costs, Ratio(0))
    stand = _start(task, wished, drawn)
    owners = all_owners(stand.seconds, {})
    _, best = _cheapest(task, (_bound(task, stand, owners), stand), owners, 0, None)
    pairing = Pairing(wished, drawn, costs)
    for name, option in best.taken.items():
        if option is not None:
            pairing[name] = (option[0], option[1])
    return pairing


def floor_paper(wished, drawn, price, prices=None):
    """A paper that no pairing costs less than a price, or None if one does."""
    _check_limits(wished, drawn)
    asked = Ratio(1) * price
    task = Task(wished, drawn, Prices() if prices is None else prices, asked)
    stand = _start(task, wished, drawn)
    owners = all_owners(stand.seconds, {})
    return _paper(task, (_bound(task, stand, owners), stand), owners, 0, task.scaled(asked))


def lets_floor(wished, drawn, price, paper, prices=None):
    """Whether any value is a paper that no pairing costs less than a price."""
    _check_limits(wished, drawn)
    asked = Ratio(1) * price
    task = Task(wished, drawn, Prices() if prices is None else prices, asked)
    return _holds(task, _start(task, wished, drawn), task.scaled(asked), paper)


def _check_ports_and_leaves(wished, drawn):
    if sorted(wished.ports, key=str) != sorted(drawn.ports, key=str):
        raise InvalidForm(drawn)
    leaves = max([len(item.worths) for form in (wished, drawn) for item in form.entries], default=0)
    if leaves > MOST_LEAVES:
        raise LimitExceeded(leaves)


def _check_limits(wished, drawn):
    many = weight(wished, drawn)
    if many > MOST_WEIGHT:
        raise LimitExceeded(many)


def _ways_by_shape(form):
    """For each shape the ways between two items of it, which are the same for any two."""
    found = {}
    for item in form.entries:
        if item.shape not in found:
            found[item.shape] = ways(item, item)
    return found


def _order(wished, options):
    """The wished items that have options, in the order in which they are decided.

    Items that share nets with earlier ones come soon, as their meetings show early whether junctions are wrong.
    """
    nets = list(wished.ports.values())
    left = [item for item in wished.entries if options[item.id]]
    order = []
    while left:
        best = left[0]
        for item in left:
            shared, most = [len([net for net in one.slots if net in nets]) for one in (item, best)]
            fewer = len(options[item.id]) < len(options[best.id])
            if shared > most or (shared == most and fewer):
                best = item
        order.append(best.id)
        nets = nets + list(best.slots)
        left = [item for item in left if item.id != best.id]
    return order


def _start(task, wished, drawn):
    """The stand at which nothing is decided."""
    excess = {}
    for item in wished.entries:
        excess[item.shape] = excess.get(item.shape, 0) + 1
    for item in drawn.entries:
        excess[item.shape] = excess.get(item.shape, 0) - 1
    lost = sum([max(many, 0) for many in excess.values()])
    surplus = sum([max(-many, 0) for many in excess.values()])
    ports = drawn.ports
    pairs = sorted(set([(net, ports[name]) for name, net in wished.ports.items()]))
    fixed = lost * task.lost_cost + surplus * task.surplus_cost
    return Stand({}, {}, excess, fixed, second_names(pairs), len(pairs))


def _bound(task, stand, owners):
    """What all pairings cost at least that agree with what is decided; just their price if all is decided."""
    return stand.fixed + task.junction_cost * (stand.many - len(owners))


def _next_index(task, stand, index):
    """The index, from one on, of the first item in the order that has an option with a free partner."""
    while index < len(task.order):
        if any([option[0] not in stand.partners for option in task.options[task.order[index]]]):
            return index
        index = index + 1
    return index


def _children(task, stand, owners, name):
    """What deciding an item leads to, by ascending bounds: lists of the bound, the option, the stand and owners."""
    rows = []
    for option in task.options[name]:
        if option[0] not in stand.partners:
            child = stand.taking(task, name, option)
            grown = owners if child.many == stand.many else all_owners(child.seconds, owners)
            rows.append([_bound(task, child, grown), option, child, grown])
    left = stand.leaving(task, name)
    rows.append([_bound(task, left, owners), None, left, owners])
    order = sorted(set([(row[0], index) for index, row in enumerate(rows)]))
    return [rows[index] for _, index in order]


def _cheapest(task, at, owners, index, best):
    """The bound and the stand of least price of all that follow a stand, if below that of the best one so far."""
    bound, stand = at
    if best is not None and bound >= best[0]:
        return best
    index = _next_index(task, stand, index)
    if index == len(task.order):
        return at
    for low, _, child, grown in _children(task, stand, owners, task.order[index]):
        best = _cheapest(task, (low, child), grown, index + 1, best)
    return best


def _paper(task, at, owners, index, price):
    """A paper that nothing that follows a stand costs less than a price, or None."""
    bound, stand = at
    if bound >= price:
        firsts, seconds = touched(stand.seconds, owners)
        return ("bound", firsts, seconds)
    index = _next_index(task, stand, index)
    if index == len(task.order):
        return None
    name = task.order[index]
    branches = []
    for low, option, child, grown in _children(task, stand, owners, name):
        told = _paper(task, (low, child), grown, index + 1, price)
        if told is None:
            return None
        branches.append((None, None, told) if option is None else (option[0], option[1], told))
    return ("item", name, tuple(branches))


def _holds(task, stand, price, paper):
    """Whether any value is a paper that nothing that follows a stand costs less than a price."""
    if not isinstance(paper, tuple) or len(paper) != 3:
        return False
    if paper[0] == "bound":
        return _is_bound(task, stand, price, paper[1], paper[2])
    return paper[0] == "item" and _is_split(task, stand, price, paper[1], paper[2])


def _is_bound(task, stand, price, firsts, seconds):
    """Whether two values are tuples of texts that touch all meetings, few enough for the price."""
    for names in (firsts, seconds):
        if not isinstance(names, tuple) or not all([isinstance(name, str) for name in names]):
            return False
    for first, others in stand.seconds.items():
        if first not in firsts and not all([second in seconds for second in others]):
            return False
    return price <= stand.fixed + task.junction_cost * (stand.many - len(firsts) - len(seconds))


def _is_split(task, stand, price, name, branches):
    """Whether a value is an undecided item, and another one right branches for all that it may be taken to."""
    if not isinstance(name, str) or name not in task.shapes or name in stand.taken or not isinstance(branches, tuple):
        return False
    told = {}
    for branch in branches:
        if not isinstance(branch, tuple) or len(branch) != 3:
            return False
        number = _number_of(task, stand, name, branch[0], branch[1])
        if number is None:
            return False
        option = None if number == LEFT else task.options[name][number]
        child = stand.leaving(task, name) if option is None else stand.taking(task, name, option)
        if not _holds(task, child, price, branch[2]):
            return False
        told[number] = True
    free = [index for index, option in enumerate(task.options[name]) if option[0] not in stand.partners]
    return all([number in told for number in [LEFT, *free]])


def _number_of(task, stand, name, partner, way):
    """The number of the option that two values tell; LEFT for none, None if they are wrong."""
    if partner is None and way is None:
        return LEFT
    if not isinstance(partner, str) or partner in stand.partners or not isinstance(way, tuple):
        return None
    if not all([isinstance(row, tuple) and all([is_whole(index) for index in row]) for row in way]):
        return None
    return task.numbers[name].get((partner, way))
