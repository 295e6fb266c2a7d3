"""A registry of named coins, with recorded questions and what invalidates them."""

from bentcoin.chains import chain_chances, chain_mean, chain_never, compare_chains, compose_chain
from bentcoin.coins import coin_size, make_coin
from bentcoin.errors import CyclicDefinition, InvalidCoin, LimitExceeded, NameInUse
from bentcoin.errors import UnknownCheckpoint, UnknownName
from bentcoin.kinds import is_index
from bentcoin.probabilities import MAX_TOSS_STATES
from bentcoin.substitution import coin_error
from bentcoin.synthesis import synthesize

MAX_DEGREE = 60


class Registry:
    """Coins by their names, records by their numbers, and checkpoints."""

    def __init__(self):
        self.coins = {}
        self.valid = {}
        self.spoiled = []
        self.upcoming = 0
        self.checkpoints = []

    def __len__(self):
        """Return the number of names."""
        return len(self.coins)

    def define(self, word, kind, value, by):
        """Define or replace the coin of this name; by is the name of the tossed coin, or None."""
        if by is not None:
            self.check_name(by)
            check_coin(self.coins[by])
        coin = make_coin(kind, value, by)
        tossed = [] if by is None else self.names_from(by)
        if word in tossed:
            raise CyclicDefinition((word, *tossed[:tossed.index(word) + 1]))
        if self.tossers_of(word) != []:
            check_coin(coin)
        self.invalidate(word)
        self.coins[word] = coin

    def remove(self, word):
        """Remove the coin of this name, which no other tosses."""
        self.check_name(word)
        tossers = self.tossers_of(word)
        if tossers != []:
            raise NameInUse(tuple(tossers))
        self.invalidate(word)
        del self.coins[word]

    def query(self, question):
        """Return the answer to a question."""
        names = asked_names(question)
        for name in names:
            self.check_name(name)
        if question[0] == "wish":
            for name in names:
                check_coin(self.coins[name])
        chains = [self.chain_from(name) for name in names]
        check_limits(chains)
        if question[0] == "wish":
            return answer_wish(question[1], chains)
        return answer_question(question, chains)

    def record(self, question):
        """Ask the question, store it with the answer, and return its number."""
        answer = self.query(question)
        number = self.upcoming
        self.valid[number] = (question, answer)
        self.upcoming += 1
        return number

    def records(self):
        """Return a dict from the numbers of the valid records to pairs (question, answer)."""
        return dict(self.valid)

    def invalidated(self):
        """Return the ascending list of the numbers of invalidated records."""
        return sorted(self.spoiled)

    def list_names(self):
        """Return the ascending list of the names."""
        return sorted(self.coins)

    def save_checkpoint(self):
        """Store what there is now, and return the number of the checkpoint."""
        self.checkpoints.append((dict(self.coins), dict(self.valid), list(self.spoiled), self.upcoming))
        return len(self.checkpoints) - 1

    def restore(self, number):
        """Bring back what a checkpoint stores, and discard later checkpoints."""
        if not is_index(number, len(self.checkpoints)):
            raise UnknownCheckpoint(number)
        coins, valid, spoiled, upcoming = self.checkpoints[number]
        self.coins = dict(coins)
        self.valid = dict(valid)
        self.spoiled = list(spoiled)
        self.upcoming = upcoming
        del self.checkpoints[number + 1:]

    def check_name(self, name):
        """Raise UnknownName if there is no coin of this name."""
        if name not in self.coins:
            raise UnknownName(name)

    def tossers_of(self, word):
        """Return the ascending list of the names that toss this name."""
        return sorted([name for name in self.coins if self.coins[name].by == word])

    def names_from(self, name):
        """Return the list of a name, the name that it tosses, and so on."""
        names = []
        while name is not None:
            names.append(name)
            name = self.coins[name].by
        return names

    def chain_from(self, name):
        """Return the list of the coins of these names."""
        return [self.coins[other] for other in self.names_from(name)]

    def invalidate(self, word):
        """Invalidate the records whose questions reach this name."""
        for number in list(self.valid):
            question, _ = self.valid[number]
            if any([word in self.names_from(name) for name in asked_names(question)]):
                del self.valid[number]
                self.spoiled.append(number)


def asked_names(question):
    """Return the list of the names of a question."""
    if question[0] == "wish":
        return [] if question[2] is None else [question[2]]
    return list(question[1:3]) if question[0] == "alike" else [question[1]]


def check_coin(coin):
    """Raise InvalidCoin if the coin's machine is not a coin machine."""
    reason = coin_error(coin.machine)
    if reason is not None:
        raise InvalidCoin(reason)


def check_limits(chains):
    """Raise LimitExceeded if a coin of the chains, or a whole chain, is too large for its probabilities."""
    for chain in chains:
        for coin in chain:
            if coin.kind != "recipe" and coin_size(coin) > MAX_TOSS_STATES:
                raise LimitExceeded(MAX_TOSS_STATES)
    for chain in chains:
        degree = 1
        for coin in chain:
            degree *= coin_size(coin)
        if degree > MAX_DEGREE:
            raise LimitExceeded(MAX_DEGREE)


def answer_question(question, chains):
    """Return the answer to a question about chances, tosses or a comparison."""
    if question[0] == "chance":
        return chain_chances(chains[0], [question[2]])[0]
    if question[0] == "never":
        return chain_never(chains[0])
    if question[0] == "mean":
        return chain_mean(chains[0])
    return compare_chains(chains[0], chains[1])


def answer_wish(rational, chains):
    """Return what synthesis finds, and for a recipe its probability with the coin of the chain, if any."""
    result = synthesize(rational)
    if result[0] != "recipe":
        return (result, None)
    return (result, rational if chains == [] else compose_chain(rational, chains[0]))
