"""Wholeways: a graph store whose path questions are answered on exactly the state that one may see."""
