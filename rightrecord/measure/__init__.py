"""Shares of choices and answers, and bounds over all choices."""
