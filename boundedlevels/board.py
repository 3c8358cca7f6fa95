"""A board of accounts: each between two BOUNDs, each maybe with an heir that takes what is too much for it.

An account is a tuple (level, low, high, heir) in a dict from NAMEs. Such a dict never
changes: each deed makes another one, so the last ones are kept to be taken back.
"""

from boundedlevels.cascades import poured, poured_moments, sum_row, sums_of_bounds
from boundedlevels.errors import Crossed, Needed, NoName, NotBehind, NothingDone, Outside, Ring, Taken
from boundedlevels.stretches import is_in
from boundedlevels.ways import held, way_of


def account_of(accounts, name):
    """The account of this NAME; raises NoName if there is none."""
    if name not in accounts:
        raise NoName(name)
    return accounts[name]


def chain_of(accounts, name):
    """The NAMEs of the chain of this account, its own first."""
    chain = []
    while name is not None:
        chain.append(name)
        _, _, _, name = account_of(accounts, name)
    return tuple(chain)


def levels_in(accounts, chain):
    """The levels of these accounts."""
    return tuple([accounts[name][0] for name in chain])


def bounds_in(accounts, chain):
    """The pairs of BOUNDs of these accounts."""
    return [accounts[name][1:3] for name in chain]


def rooms_in(accounts, chain):
    """How much each of these accounts can take, None without an end."""
    return [None if high is None else high - level for level, _, high, _ in [accounts[name] for name in chain]]


def stocks_in(accounts, chain):
    """How much each of these accounts can give, None without an end."""
    return [None if low is None else level - low for level, low, _, _ in [accounts[name] for name in chain]]


def check_bounds(low, high):
    """Raises Crossed if low is above high."""
    if low is not None and high is not None and low > high:
        raise Crossed(low, high)


def chain_to(accounts, name, other):
    """The NAMEs of the chain from one account up to another one; raises NotBehind if that is not in it."""
    chain = chain_of(accounts, name)
    if other not in chain:
        raise NotBehind(other)
    return chain[:chain.index(other) + 1]


def least_to_move(distance, rooms):
    """The least amount by which the last of some accounts moves so far, the others ahead of it being filled first.

    The rooms tell how much each can take, None without an end. None if no amount does.
    """
    if distance <= 0:
        return 0
    *ahead, last = rooms
    if None in ahead or (last is not None and last < distance):
        return None
    return sum(ahead) + distance


class Board:
    """Accounts with NAMEs, levels, BOUNDs and heirs."""

    def __init__(self):
        self._accounts = {}
        self._past = []

    @property
    def names(self):
        """The set of the NAMEs."""
        return tuple(sorted(self._accounts))

    @property
    def deeds(self):
        """How many deeds can be taken back."""
        return len(self._past)

    def _become(self, accounts):
        """One deed: these are the accounts from now on."""
        self._past.append(self._accounts)
        self._accounts = accounts

    def bounds(self, name):
        """The pair (low, high) of an account."""
        _, low, high, _ = account_of(self._accounts, name)
        return (low, high)

    def heir_of(self, name):
        """The NAME of the heir of an account, None if it has none."""
        _, _, _, heir = account_of(self._accounts, name)
        return heir

    def chain(self, name):
        """The tuple of the NAMEs of the chain of an account, its own first."""
        return chain_of(self._accounts, name)

    def admit(self, name, level, low=None, high=None, heir=None):
        """A new account."""
        if name in self._accounts:
            raise Taken(name)
        check_bounds(low, high)
        if not is_in(level, (low, high)):
            raise Outside(level)
        if heir is not None:
            account_of(self._accounts, heir)
        self._become({**self._accounts, name: (level, low, high, heir)})

    def shut(self, name):
        """The account goes, with its level."""
        account_of(self._accounts, name)
        for other in self.names:
            if self.heir_of(other) == name:
                raise Needed(other)
        self._become({other: account for other, account in self._accounts.items() if other != name})

    def _pour(self, name, amount):
        """So much is given to an account, or called from it if it is below 0; returns what is lost, or not had."""
        chain = self.chain(name)
        levels, went = poured(bounds_in(self._accounts, chain), levels_in(self._accounts, chain), amount)
        accounts = {**self._accounts}
        for other, level in zip(chain, levels):
            accounts[other] = (level, *accounts[other][1:])
        self._become(accounts)
        return went[-1]

    def give(self, name, number):
        """So much is given to an account; returns how much is lost."""
        return self._pour(name, number)

    def call(self, name, number):
        """So much is called from an account; returns how much is not had."""
        return self._pour(name, -number)

    def rule(self, name, low, high):
        """An account has these BOUNDs from now on; returns by how much its level changed."""
        level, _, _, heir = account_of(self._accounts, name)
        check_bounds(low, high)
        kept = held(level, low, high)
        self._become({**self._accounts, name: (kept, low, high, heir)})
        return kept - level

    def leave_to(self, name, heir):
        """This is the heir of an account from now on, None for none."""
        level, low, high, _ = account_of(self._accounts, name)
        if heir is not None and name in self.chain(heir):
            raise Ring(heir)
        self._become({**self._accounts, name: (level, low, high, heir)})

    def back(self):
        """Takes back the last deed that was not taken back."""
        if not self._past:
            raise NothingDone()
        self._accounts = self._past.pop()

    def room(self, name):
        """The greatest number that can be given to an account without any loss; None if there is no greatest one."""
        rooms = rooms_in(self._accounts, self.chain(name))
        return None if None in rooms else sum(rooms)

    def stock(self, name):
        """The greatest number that can be called from an account and is had; None if there is no greatest one."""
        stocks = stocks_in(self._accounts, self.chain(name))
        return None if None in stocks else sum(stocks)

    def foresee(self, name, numbers):
        """The levels of the chain of an account if these numbers were given to it, or called those below 0."""
        chain = self.chain(name)
        moments, _ = poured_moments(bounds_in(self._accounts, chain), levels_in(self._accounts, chain), numbers)
        return moments[-1]

    def ways(self, name, numbers):
        """For each account of the chain the Way of what the same does to the sum of the levels up to it."""
        sums = sums_of_bounds(bounds_in(self._accounts, self.chain(name)))
        return tuple([way_of(sum_row(low, high, numbers)) for low, high in sums])

    def least_gift(self, name, other, level):
        """The least number that must be given to name so that other stands at level or above; None if none does."""
        chain = chain_to(self._accounts, name, other)
        return least_to_move(level - self[other], rooms_in(self._accounts, chain))

    def least_call(self, name, other, level):
        """The least number that must be called from name so that other stands at level or below; None if none does."""
        chain = chain_to(self._accounts, name, other)
        return least_to_move(self[other] - level, stocks_in(self._accounts, chain))

    def twin(self):
        """Another Board that is equal to this one, with no deed to be taken back."""
        twin = Board()
        twin._accounts = {**self._accounts}
        return twin

    def __getitem__(self, at):
        level, _, _, _ = account_of(self._accounts, at)
        return level

    def __contains__(self, x):
        return x in self._accounts

    def __len__(self):
        return len(self._accounts)

    def __iter__(self):
        raise TypeError("a Board is not iterated over")

    def __eq__(self, other):
        return isinstance(other, Board) and self._accounts == other._accounts
