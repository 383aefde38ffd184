"""Letters to the service and answers to them: what stands at which place."""

from telltrove.digits import digits_of, number_from

READ = 1
PUT = 2
DROP = 3
# The number of a letter stands behind the client, in both letters and answers.
NUMBER_BYTES = 2
# Ahead of what an answer tells: the client, the number and the status.
ANSWER_HEAD = 4
# Ahead of the wire of a letter: the client, the number, the version, the op and the key.
LETTER_HEAD = 6

FINE = 0
NOTHING = 1
GONE = 3
NO_DEED = 4
BAD_BYTES = 5
UNLET = 6


def headed(client, number, told):
    """A letter or an answer: the client and the number of the letter, and what is told behind them."""
    return (client, *digits_of(number, NUMBER_BYTES), *told)


def number_in(message):
    """The number of a letter, or of the letter that an answer is to; 0 if the message is empty."""
    return number_from(message[1:1 + NUMBER_BYTES])
