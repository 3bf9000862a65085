"""Blocks of two by two, their numbers, and the rules that change them."""

from blockturn.errors import NoRule, NotBack
from blockturn.turnings import turned_rows


def block_of(number, colours):
    return (
        number // colours ** 3 % colours,
        number // colours ** 2 % colours,
        number // colours % colours,
        number % colours,
    )


def number_of(block, colours):
    number = 0
    for colour in block:
        number = number * colours + colour
    return number


def looked(rule, colours):
    size = colours ** 4
    if len(rule) != size:
        raise NoRule("a rule has one number for each block")
    # The errors' words leave the numbers out: Python refuses to write very long ones.
    if min(rule) < 0 or max(rule) >= size:
        raise NoRule("a rule has only numbers of blocks")
    if len(set(rule)) != size:
        raise NotBack("a rule that can be run back has each number just once")
    return len([number for number in range(size) if rule[number] != number])


def rule_back(rule):
    result = list(rule)
    for number, led in enumerate(rule):
        result[led] = number
    return result


def turned_block(block, turning):
    rows = turned_rows((block[:2], block[2:]), turning)
    return rows[0] + rows[1]


def other_colours(block):
    return tuple([1 - colour for colour in block])


def turn_block(block):
    return turned_block(block, 1)


def billiard_block(block):
    ones = sum(block)
    if ones == 1:
        return turned_block(block, 2)
    if ones == 2 and block[0] == block[3]:
        return other_colours(block)
    return block


def critters_block(block):
    ones = sum(block)
    if ones == 2:
        return block
    if ones == 3:
        return turned_block(other_colours(block), 2)
    return other_colours(block)


NAMED_BLOCKS = {
    "turn": turn_block,
    "billiard": billiard_block,
    "critters": critters_block,
}


def named(name):
    become = NAMED_BLOCKS[name]
    return [number_of(become(block_of(number, 2)), 2) for number in range(16)]
