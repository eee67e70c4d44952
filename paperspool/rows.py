"""Answers with rows, each with how many numbers it has ahead of it."""


def with_rows(first, rows):
    answer = [first]
    for row in rows:
        answer.append(len(row))
        answer.extend(row)
    return answer
