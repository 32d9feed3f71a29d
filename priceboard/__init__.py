"""The price board: markers of companies on a grid of prices."""
