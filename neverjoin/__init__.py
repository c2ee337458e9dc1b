"""Books that cut every endless text in the same number of ways."""
