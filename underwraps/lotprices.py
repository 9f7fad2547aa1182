"""Prices of permits: the cheapest lot that keeps, and trees that show that none is cheaper."""

from underwraps.forms import first_word, is_list, is_number
from underwraps.lots import need_judge, read_lot
from underwraps.refusals import BadPrice, BadPrices


def need_prices(book, prices):
    """Raise BadPrices for what is no dict from just the book's permits to numbers."""
    permits = book.all_permits()
    if not isinstance(prices, dict) or len(prices) != len(permits):
        raise BadPrices(prices)
    if not all([permit in prices and is_number(prices[permit]) for permit in permits]):
        raise BadPrices(prices)


def price_of(prices, lot):
    """Return the sum of the prices of a lot's permits."""
    return sum([prices[permit] for permit in lot])


def cheapest_of(prices, keeping):
    """Return the least price of some lots, and the least lot with it."""
    return min([(price_of(prices, lot), lot) for lot in keeping])


def cheapest_lot(book, start, secrets, prices):
    """Return the least price of a lot that keeps, and the least lot with it."""
    judge = need_judge(book, start, secrets)
    need_prices(book, prices)
    _, keeping = judge.both()
    price, lot = cheapest_of(prices, keeping)
    return (price, list(lot))


def is_tree(judge, prices, price, taken, thing):
    """Tell whether any object is a right barring tree where some permits are taken."""
    word = first_word(thing)
    if word == "enough":
        return len(thing) == 1 and price_of(prices, taken) >= price
    if word != "told" or len(thing) != 3:
        return False
    lot, trees = read_lot(judge.book, thing[1]), thing[2]
    if lot is None or not is_list(trees) or len(trees) != len(lot):
        return False
    # A way down never takes a permit twice: so it ends, even in a list that holds itself.
    if any([permit in taken for permit in lot]) or not judge.tells(lot):
        return False
    return all([is_tree(judge, prices, price, taken + (permit,), tree) for permit, tree in zip(lot, trees)])


def is_barring(book, start, secrets, prices, price, thing):
    """Tell whether any object is a right barring tree for a price."""
    judge = need_judge(book, start, secrets)
    need_prices(book, prices)
    if not is_number(price):
        raise BadPrice(price)
    return is_tree(judge, prices, price, (), thing)


def tree_for(telling, prices, price, taken):
    """Return a right barring tree for a price that no cheaper lot is enough for, where some permits are taken."""
    if price_of(prices, taken) >= price:
        return ("enough",)
    # What is taken costs less than any lot that keeps: it misses some lot that tells.
    missed = [lot for lot in telling if not any([permit in taken for permit in lot])]
    lot = min(missed, key=len)
    return ("told", list(lot), [tree_for(telling, prices, price, taken + (permit,)) for permit in lot])


def barring_tree(book, start, secrets, prices):
    """Return a right barring tree for the price of the cheapest lot."""
    judge = need_judge(book, start, secrets)
    need_prices(book, prices)
    telling, keeping = judge.both()
    price, _ = cheapest_of(prices, keeping)
    return tree_for(telling, prices, price, ())
