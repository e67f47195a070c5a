"""A city's lines for a day, under every course of delays."""
