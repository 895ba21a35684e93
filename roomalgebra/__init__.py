"""Sets of words, their machines of rooms, and what kind of set they are."""
