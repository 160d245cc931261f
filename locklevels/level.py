"""The interface: a list of calls on one new object, and the list of their answers."""

from locklevels.calls import Session, answer, count_numbers, has_row


# calls: one call behind another, each its number, its whole numbers, then its row with the row's length
# ahead. Gives back for each call how many numbers are answered, then these.
def answers(calls):
    session = Session()
    told = []
    at = 0
    while at < len(calls):
        call = calls[at]
        at += 1
        numbers = calls[at:at + count_numbers(call)]
        at += len(numbers)
        row = []
        if has_row(call):
            row = calls[at + 1:at + 1 + calls[at]]
            at += 1 + len(row)
        answered = answer(session, call, numbers, row)
        told.append(len(answered))
        told.extend(answered)
    return told
