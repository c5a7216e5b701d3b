"""Systems of coins, and the greatest coin first."""
