"""Forklent: a borrow checker for threads that borrow from one another."""
